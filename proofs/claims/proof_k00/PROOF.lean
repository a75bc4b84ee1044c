import PyProof.Rows.All
import Wide.All
import OpenK.AllK
import Wide.FinOn
import PySem.Challenge.RW_toldstarts_k00_texts_of_ticks
import HandS.ForMost
import HandS.Exc
import HandS.ExcOwn
import HandS.ExcInit
import HandS.TryOnly
import HandS.WordsExc
import HandS.IsInst
import HandS.FStr
import HandS.Wide
import HandS.WideMore
import HandS.Zip
import HandS.Walk
import HandS.ReplaceLit
import HandS.ReplaceDef
import HandS.ReplaceList
import HandS.CallSlots
import HandS.TupAny
import HandS.Evl
import HandS.Codes
import PyProof.StrBlock2
import KE.KxField
import HandS.ExcField
import PyProof.FString3
import KE.GoesMore
import KE.GoesZip
import KE.GoesEnum
import HandS.Lambda
set_option Elab.async false
set_option linter.all false
set_option maxRecDepth 100000
set_option maxHeartbeats 4000000
/-! A prelude over the hand layer: values' operators by match, calls bundled. -/
namespace G
open PySem PySem.Spec PyProof.Rows L2

/-- the text with these signs -/
abbrev S (l : List Nat) : Str := SX.S l
abbrev tl (x : Str) : List Nat := x.cps.toList

/-! ### calls of own defs, bundled -/
structure CallOk (P : Program) (w : World) (K : PySem.W.Frag) (mg : Str → Option Value) (base : Heap) (x : Str) (k : Nat) (ps : List Str) (sp : Sp) : Prop where
  ex : ∃ (f : Addr) (fd : FuncData), mg x = some (.ref f) ∧ PySem.W.keepIn K (.ref f) = true ∧ Binds K fd ps [] ∧ FnOk P w K mg base (L2.CX P w) k f fd ps sp
section
variable {X : Cx} {k : Nat} {ps : List Str} {sp : Sp} {x : Str} {e : Expr} {es : List Expr} {t : TA} {p pos : Pos}
theorem pe_cc {E : XK} (C : CallOk X.prog X.w X.K X.mg X.base x k ps sp) (hx : Passes (L2.CX X.prog X.w) X E) (hr : Room k X.A) (ha : PA X (e :: es) t) (hg : Gl X x := by rfl)
    (hdb : (x == ("__debug__" : Str)) = false := by decide) (he : starEach (e :: es) X.env = (false, eval e X.env) :: starEach es X.env := by rfl) (hpl : (backTo pos (starEach es X.env)).any (·.1) = false := by rfl) :
    PE X (.Call (.Name x p) (e :: es) [] pos) (tCall sp [] E t) := by
  obtain ⟨f, fd, hm, hk, hb, F⟩ := C.ex
  exact pe_call F hr hg hm hk hb .nil hx ha hdb he hpl
/-- a call of what raises nothing -/
theorem pe_c0 (C : CallOk X.prog X.w X.K X.mg X.base x k ps sp) (hr : Room k X.A) (ha : PA X (e :: es) t) (hg : Gl X x := by rfl)
    (hdb : (x == ("__debug__" : Str)) = false := by decide) (he : starEach (e :: es) X.env = (false, eval e X.env) :: starEach es X.env := by rfl) (hpl : (backTo pos (starEach es X.env)).any (·.1) = false := by rfl) :
    PE X (.Call (.Name x p) (e :: es) [] pos) (tCall sp [] E0 t) := pe_cc C passL hr ha hg hdb he hpl
end

/-- a module's number -/
theorem pe_gI {X : Cx} {x : Str} {n : Int} {pos : Pos} (hm : ∃ t, X.mg x = some (.int n t)) (hg : Gl X x := by rfl) (hd : (x == ("__debug__" : Str)) = false := by decide) : PE X (.Name x pos) (tC (.int n)) := by
  obtain ⟨t, h⟩ := hm
  exact pe_glob hg h ⟨t, rfl⟩ hd
/-! ### operators by the values' kinds -/
section
variable {X : Cx}
def rAddG (K : PySem.W.Frag) : R2 := fun x y H Q => match x, y with
  | .int i, .int j => Q (.int (i + j)) H
  | .str a, .str b => a.length + b.length ≤ sizeLine ∧ Q (.str (a ++ b)) H
  | .ref p, .ref q => (∃ xs ys, H p = some (.lst xs) ∧ H q = some (.lst ys) ∧ xs.length + ys.length ≤ sizeLine ∧ ∀ r, H r = none → Q (.ref r) (upd H r (.lst (xs ++ ys)))) ∨ rCatA K x y H Q
  | _, _ => False
theorem op_addG : OpR X (binaryOp .Add) (rAddG X.K) := by
  intro pins s σ H x y v u Q I rx ry h
  cases x <;> cases y <;> first
    | exact False.elim h
    | exact op_add pins s σ H _ _ v u Q I rx ry ⟨_, _, rfl, rfl, h⟩
    | exact op_add_str pins s σ H _ _ v u Q I rx ry ⟨_, _, rfl, rfl, h⟩
    | exact h.elim (fun ⟨xs, ys, h1, h2, h3, h4⟩ => op_cat pins s σ H _ _ v u Q I rx ry ⟨_, _, xs, ys, rfl, rfl, h1, h2, h3, h4⟩) (fun h => op_catA pins s σ H _ _ v u Q I rx ry h)
def rSubG : R2 := fun x y H Q => match x, y with
  | .int i, .int j => Q (.int (i - j)) H
  | _, _ => False
theorem op_subG : OpR X (binaryOp .Sub) rSubG := by
  intro pins s σ H x y v u Q I rx ry h
  cases x <;> cases y <;> first
    | exact False.elim h
    | exact op_sub pins s σ H _ _ v u Q I rx ry ⟨_, _, rfl, rfl, h⟩
theorem op_mul_str : OpR X (binaryOp .Mult) (fun x y H Q => ∃ a n, x = .str a ∧ y = .int n ∧ MulOk a n ∧ Q (.str (Txt.mul a n)) H) := by
  intro pins s σ H x y v u Q I rx ry h
  obtain ⟨a, n, rfl, rfl, hz, q⟩ := h
  obtain ⟨t, rfl⟩ := rx
  obtain ⟨t', rfl⟩ := ry
  exact SB.mul hz fun t' k => ⟨.str _, H, I.tok _, ⟨_, rfl⟩, q⟩
def rMulG : R2 := fun x y H Q => match x, y with
  | .int i, .int j => (CMul i j ∨ CMulW i j) ∧ Q (.int (i * j)) H
  | .str a, .int n => MulOk a n ∧ Q (.str (Txt.mul a n)) H
  | .ref l, .int k => ∃ xs, H l = some (.lst xs) ∧ -(2 ^ 63) ≤ k ∧ k < 2 ^ 63 ∧ xs.length * k.toNat ≤ sizeLine ∧ ∀ p, H p = none → Q (.ref p) (upd H p (.lst (List.replicate k.toNat xs).flatten))
  | _, _ => False
theorem op_mulG : OpR X (binaryOp .Mult) rMulG := by
  intro pins s σ H x y v u Q I rx ry h
  cases x <;> cases y <;> first
    | exact False.elim h
    | exact h.1.elim (fun c => op_mul pins s σ H _ _ v u Q I rx ry ⟨_, _, rfl, rfl, c, h.2⟩) (fun c => op_mulW pins s σ H _ _ v u Q I rx ry ⟨_, _, rfl, rfl, c, h.2⟩)
    | exact op_mul_str pins s σ H _ _ v u Q I rx ry ⟨_, _, rfl, rfl, h.1, h.2⟩
    | exact (let ⟨xs, h1, h2, h3, h4, h5⟩ := h; op_rep pins s σ H _ _ v u Q I rx ry ⟨_, _, xs, rfl, rfl, h1, h2, h3, h4, h5⟩)
def rModG : R2 := fun x y H Q => match x, y with
  | .int i, .int j => 0 < j ∧ Q (.int (i % j)) H
  | _, _ => False
theorem op_modG : OpR X (binaryOp .Mod) rModG := by
  intro pins s σ H x y v u Q I rx ry h
  cases x <;> cases y <;> first
    | exact False.elim h
    | exact op_mod pins s σ H _ _ v u Q I rx ry ⟨_, _, rfl, rfl, h.1, h.2⟩
def rDivG : R2 := fun x y H Q => match x, y with
  | .int i, .int j => CDivW i j ∧ Q (.int (i / j)) H
  | _, _ => False
theorem op_divG : OpR X (binaryOp .FloorDiv) rDivG := by
  intro pins s σ H x y v u Q I rx ry h
  cases x <;> cases y <;> first
    | exact False.elim h
    | exact op_fdivW pins s σ H _ _ v u Q I rx ry ⟨_, _, rfl, rfl, h.1, h.2⟩
def rPowG : R2 := fun x y H Q => match x, y with
  | .int i, .int j => CPow i j ∧ Q (.int (i ^ j.toNat)) H
  | _, _ => False
theorem op_powG : OpR X (binaryOp .Pow) rPowG := by
  intro pins s σ H x y v u Q I rx ry h
  cases x <;> cases y <;> first
    | exact False.elim h
    | exact op_pow pins s σ H _ _ v u Q I rx ry ⟨_, _, rfl, rfl, h.1, h.2⟩

/-! ### comparisons -/
def rLtG : R2 := fun x y H Q => match x, y with
  | .int i, .int j => Q (.bl (decide (i < j))) H
  | .str a, .str b => Q (.bl (decide (tl a < tl b))) H
  | _, _ => False
theorem op_ltG : OpR X (compareOp .Lt) rLtG := by
  intro pins s σ H x y v u Q I rx ry h
  cases x <;> cases y <;> first
    | exact False.elim h
    | exact op_lt pins s σ H _ _ v u Q I rx ry ⟨_, _, rfl, rfl, h⟩
    | exact op_lt_str pins s σ H _ _ v u Q I rx ry ⟨_, _, rfl, rfl, h⟩
def rLeG : R2 := fun x y H Q => match x, y with
  | .int i, .int j => Q (.bl (decide (i ≤ j))) H
  | .str a, .str b => Q (.bl (!decide (tl b < tl a))) H
  | _, _ => False
theorem op_leG : OpR X (compareOp .LtE) rLeG := by
  intro pins s σ H x y v u Q I rx ry h
  cases x <;> cases y <;> first
    | exact False.elim h
    | exact op_le pins s σ H _ _ v u Q I rx ry ⟨_, _, rfl, rfl, h⟩
    | exact op_le_str pins s σ H _ _ v u Q I rx ry ⟨_, _, rfl, rfl, h⟩
def rGtG : R2 := fun x y H Q => match x, y with
  | .int i, .int j => Q (.bl (decide (j < i))) H
  | .str a, .str b => Q (.bl (decide (tl b < tl a))) H
  | _, _ => False
theorem op_gtG : OpR X (compareOp .Gt) rGtG := by
  intro pins s σ H x y v u Q I rx ry h
  cases x <;> cases y <;> first
    | exact False.elim h
    | exact op_gt pins s σ H _ _ v u Q I rx ry ⟨_, _, rfl, rfl, h⟩
    | exact op_gt_str pins s σ H _ _ v u Q I rx ry ⟨_, _, rfl, rfl, h⟩
def rGeG : R2 := fun x y H Q => match x, y with
  | .int i, .int j => Q (.bl (decide (j ≤ i))) H
  | .str a, .str b => Q (.bl (!decide (tl a < tl b))) H
  | _, _ => False
theorem op_geG : OpR X (compareOp .GtE) rGeG := by
  intro pins s σ H x y v u Q I rx ry h
  cases x <;> cases y <;> first
    | exact False.elim h
    | exact op_ge pins s σ H _ _ v u Q I rx ry ⟨_, _, rfl, rfl, h⟩
    | exact op_ge_str pins s σ H _ _ v u Q I rx ry ⟨_, _, rfl, rfl, h⟩
def rEqG (K : PySem.W.Frag) : R2 := fun x y H Q => match x, y with
  | .int i, .int j => Q (.bl (decide (i = j))) H
  | .str a, .str b => Q (.bl (decide (tl a = tl b))) H
  | .bl a, .bl b => Q (.bl (decide (a = b))) H
  | .ref _, _ => rEqD K x y H Q
  | _, .ref _ => rEqD K x y H Q
  | _, _ => scal x y = true ∧ Q (.bl (decide (x = y))) H
theorem str_tl {a b : Str} : decide (V.str a = V.str b) = decide (tl a = tl b) := by
  by_cases h : a = b
  · subst h
    simp
  · have h2 : ¬ tl a = tl b := fun q => h (TL.ext_tl q)
    have h1 : ¬ V.str a = V.str b := fun q => h (V.str.inj q)
    rw [decide_eq_false h1, decide_eq_false h2]
theorem int_dec {a b : Int} : decide (V.int a = V.int b) = decide (a = b) := by
  by_cases h : a = b
  · subst h
    simp
  · have h1 : ¬ V.int a = V.int b := fun q => h (V.int.inj q)
    rw [decide_eq_false h1, decide_eq_false h]
theorem bl_dec {a b : Bool} : decide (V.bl a = V.bl b) = decide (a = b) := by cases a <;> cases b <;> rfl
theorem op_eqG (hu : X.A.units + 64 < cLine) : OpR X (compareOp .Eq) (rEqG X.K) := by
  intro pins s σ H x y v u Q I rx ry h
  cases x <;> cases y <;> first
    | exact op_eq pins s σ H _ _ v u Q I rx ry ⟨rfl, by rw [int_dec]; exact h⟩
    | exact op_eq pins s σ H _ _ v u Q I rx ry ⟨rfl, by rw [str_tl]; exact h⟩
    | exact op_eq pins s σ H _ _ v u Q I rx ry ⟨rfl, by rw [bl_dec]; exact h⟩
    | exact op_eqD hu pins s σ H _ _ v u Q I rx ry h
    | exact op_eq pins s σ H _ _ v u Q I rx ry h
def rNeG (K : PySem.W.Frag) : R2 := fun x y H Q => match x, y with
  | .int i, .int j => Q (.bl (!decide (i = j))) H
  | .str a, .str b => Q (.bl (!decide (tl a = tl b))) H
  | .bl a, .bl b => Q (.bl (!decide (a = b))) H
  | .ref _, _ => rNeD K x y H Q
  | _, .ref _ => rNeD K x y H Q
  | _, _ => scal x y = true ∧ Q (.bl (!decide (x = y))) H
theorem op_neG (hu : X.A.units + 64 < cLine) : OpR X (compareOp .NotEq) (rNeG X.K) := by
  intro pins s σ H x y v u Q I rx ry h
  cases x <;> cases y <;> first
    | exact op_ne pins s σ H _ _ v u Q I rx ry ⟨rfl, by rw [int_dec]; exact h⟩
    | exact op_ne pins s σ H _ _ v u Q I rx ry ⟨rfl, by rw [str_tl]; exact h⟩
    | exact op_ne pins s σ H _ _ v u Q I rx ry ⟨rfl, by rw [bl_dec]; exact h⟩
    | exact op_neD hu pins s σ H _ _ v u Q I rx ry h
    | exact op_ne pins s σ H _ _ v u Q I rx ry h
/-- x in y, x not in y: y a list, a tuple, or a text and x one sign -/
def rInG (K : PySem.W.Frag) (neg : Bool) : R2 := fun x y H Q => match y with
  | .ref p => ∃ xs, (SqL K H p xs ∨ SqT K H p xs) ∧ flatV x = true ∧ xs.all flatV = true ∧ Q (.bl (if neg then !inV x xs else inV x xs)) H
  | .str z => ∃ c, x = .str ⟨#[c]⟩ ∧ Q (.bl (if neg then !decide (c ∈ tl z) else decide (c ∈ tl z))) H
  | _ => False
theorem op_inG : OpR X (compareOp .In) (rInG X.K false) := by
  intro pins s σ H x y v u Q I rx ry h
  cases y <;> first
    | exact False.elim h
    | exact (let ⟨xs, h1, h2, h3, h4⟩ := h; op_in_seq pins s σ H _ _ v u Q I rx ry ⟨_, xs, rfl, h1, h2, h3, h4⟩)
    | exact (let ⟨c, h1, h2⟩ := h; op_in_sign pins s σ H _ _ v u Q I rx ry ⟨c, _, h1, rfl, h2⟩)
theorem op_notInG : OpR X (compareOp .NotIn) (rInG X.K true) := by
  intro pins s σ H x y v u Q I rx ry h
  cases y <;> first
    | exact False.elim h
    | exact (let ⟨xs, h1, h2, h3, h4⟩ := h; op_notIn_seq pins s σ H _ _ v u Q I rx ry ⟨_, xs, rfl, h1, h2, h3, h4⟩)
    | exact (let ⟨c, h1, h2⟩ := h; op_notIn_sign pins s σ H _ _ v u Q I rx ry ⟨c, _, h1, rfl, h2⟩)

/-! ### subscripts, slices -/
def rIxG (K : PySem.W.Frag) : R2 := fun x y H Q => match x, y with
  | .str z, .int i => z.length ≤ sizeLine ∧ ∃ c, atI (tl z) i = some c ∧ Q (.str (S [c])) H
  | .ref p, .int i => ∃ xs v, (SqL K H p xs ∨ SqT K H p xs) ∧ atI xs i = some v ∧ Q v H
  | _, _ => False
theorem ix_G : IxR X (rIxG X.K) := by
  intro a b pins s σ H x y v u Q I rx ry h hs
  cases x <;> cases y <;> first
    | exact False.elim h
    | exact (let ⟨h0, c, h1, h2⟩ := h; ix_str a b pins s σ H _ _ v u Q I rx ry ⟨_, _, c, rfl, rfl, h0, h1, h2⟩ hs)
    | exact (let ⟨xs, z, h1, h2, h3⟩ := h; h1.elim (fun h1 => ix_list a b pins s σ H _ _ v u Q I rx ry ⟨_, xs, _, z, rfl, rfl, h1, h2, h3⟩ hs) (fun h1 => ix_tup a b pins s σ H _ _ v u Q I rx ry ⟨_, xs, _, z, rfl, rfl, h1, h2, h3⟩ hs))
def rSlG (K : PySem.W.Frag) : V → Option Int → Option Int → Hp → VK → Prop := fun x lo hi H Q => match x with
  | .str z => z.length ≤ sizeLine ∧ Q (.str (cutS z lo hi)) H
  | .ref a => (∃ xs, SqL K H a xs ∧ ∀ p, H p = none → Q (.ref p) (upd H p (.lst (cutV xs lo hi)))) ∨ rSlT K x lo hi H Q
  | _ => False
theorem sl_G : SlR X (rSlG X.K) := by
  intro pins s σ H x v vl vu lo hi sl Q I rx hs pl pu h
  cases x <;> first
    | exact False.elim h
    | exact sl_str pins s σ H _ v vl vu lo hi sl Q I rx hs pl pu ⟨_, rfl, h.1, h.2⟩
    | exact h.elim (fun ⟨xs, h1, h2⟩ => sl_list pins s σ H _ v vl vu lo hi sl Q I rx hs pl pu ⟨_, xs, rfl, h1, h2⟩) (fun h => sl_tup pins s σ H _ v vl vu lo hi sl Q I rx hs pl pu h)

/-! ### built-in functions -/
def rLenG (K : PySem.W.Frag) : List V → Hp → VK → Prop := fun vs H Q => match vs with
  | [.str z] => z.length ≤ sizeLine ∧ Q (.int z.length) H
  | [.ref p] => ∃ ys, (SqL K H p ys ∨ SqT K H p ys) ∧ Q (.int ys.length) H
  | _ => False
theorem call_lenG : CallR X (.builtin "len") (rLenG X.K) := by
  intro pins s σ H xs us Q I r h
  match xs, h with
  | [.str z], h => exact call_len_str pins s σ H _ us Q I r ⟨z, rfl, h.1, h.2⟩
  | [.ref p], h => exact (let ⟨ys, h1, h2⟩ := h; call_len_seq pins s σ H _ us Q I r ⟨p, ys, rfl, h1, h2⟩)
def rIntG : List V → Hp → VK → Prop := fun vs H Q => match vs with
  | [.int i] => Q (.int i) H
  | [.bl b] => Q (.int (if b then 1 else 0)) H
  | [.str a] => ∃ n, PySem.intText? a = some n ∧ a.length ≤ 640 ∧ Q (.int n) H
  | _ => False
theorem call_intG : CallR X (.type "int") rIntG := by
  intro pins s σ H xs us Q I r h
  match xs, h with
  | [.int i], h => exact call_int1 pins s σ H _ us Q I r (.inl ⟨i, rfl, h⟩)
  | [.bl b], h => exact call_int1 pins s σ H _ us Q I r (.inr ⟨b, rfl, h⟩)
  | [.str a], h => exact (let ⟨n, h1, h2, h3⟩ := h; call_int_str pins s σ H _ us Q I r ⟨a, n, rfl, h1, h2, h3⟩)
def rAbsG : List V → Hp → VK → Prop := fun vs H Q => match vs with
  | [.int i] => Q (.int (if i < 0 then -i else i)) H
  | _ => False
theorem call_absG : CallR X (.builtin "abs") rAbsG := by
  intro pins s σ H xs us Q I r h
  match xs, h with
  | [.int i], h => exact call_abs pins s σ H _ us Q I r ⟨i, rfl, h⟩
def rMaxG : List V → Hp → VK → Prop := fun vs H Q => match vs with
  | [.int i, .int j] => Q (.int (if j > i then j else i)) H
  | _ => False
theorem call_maxG (hc : X.calm = true) : CallR X (.builtin "max") rMaxG := by
  intro pins s σ H xs us Q I r h
  match xs, h with
  | [.int i, .int j], h => exact call_max2 hc pins s σ H _ us Q I r ⟨i, j, rfl, h⟩
def rMinG : List V → Hp → VK → Prop := fun vs H Q => match vs with
  | [.int i, .int j] => Q (.int (if j < i then j else i)) H
  | _ => False
theorem call_minG (hc : X.calm = true) : CallR X (.builtin "min") rMinG := by
  intro pins s σ H xs us Q I r h
  match xs, h with
  | [.int i, .int j], h => exact call_min2 hc pins s σ H _ us Q I r ⟨i, j, rfl, h⟩
def rStrG : List V → Hp → VK → Prop := fun vs H Q => match vs with
  | [.int i] => i.natAbs.log2 < 1920 ∧ Q (.str (Str.ofString (toString i))) H
  | _ => False
theorem call_strG : CallR X (.type "str") rStrG := by
  intro pins s σ H xs us Q I r h
  match xs, h with
  | [.int i], h => exact call_str_int pins s σ H _ us Q I r ⟨i, rfl, h.1, h.2⟩
def rDivmodG : List V → Hp → VK → Prop := fun vs H Q => match vs with
  | [.int i, .int j] => CDiv i j ∧ ∀ p, H p = none → Q (.ref p) (upd H p (.tup [.int (i / j), .int (i % j)]))
  | _ => False
theorem call_divmodG : CallR X (.builtin "divmod") rDivmodG := by
  intro pins s σ H xs us Q I r h
  match xs, h with
  | [.int i, .int j], h => exact call_divmod pins s σ H _ us Q I r ⟨i, j, rfl, h.1, h.2⟩
/-- isinstance(x, T), T built-in, x flat -/
def tyOf : V → String
  | .non => "NoneType" | .bl _ => "bool" | .int _ => "int" | .str _ => "str" | _ => ""
def rIsiG : List V → Hp → VK → Prop := fun vs H Q => match vs with
  | [x, .ty n] => flatV x = true ∧ tyOf x ≠ "" ∧ ∃ b, kitB (tyOf x) n = some b ∧ Q (.bl b) H
  | _ => False
theorem call_isiG : CallR X (.builtin "isinstance") rIsiG := by
  intro pins s σ H xs us Q I r h
  match xs, h with
  | [x, .ty n], h =>
    obtain ⟨h0, h1, b, h2, h3⟩ := h
    refine call_isi pins s σ H _ us Q I r ⟨x, .ty n, .type (tyOf x), .type n, b, rfl, .ty n, ?_, kit_ty h2, h3⟩
    cases x with
    | non => exact .base .non
    | bl b => exact .base (.bl b)
    | int i => exact .base (.int i)
    | str z => exact .base (.str z)
    | _ => exact absurd rfl h1
/-- a value's truth, flat ones by match -/
def tTruG (K : PySem.W.Frag) (ta : TE) : TT := fun σ H Q => ta σ H fun x H' => match x with
  | .bl b => Q b H'
  | .int i => Q (i != 0) H'
  | .non => Q false H'
  | _ => ∃ k, TruV K x H' k ∧ Q k H'
theorem pt_truG {a : Expr} {ta : TE} (ha : PE X a ta) (he : ∀ whole, isTrue a X.env whole = (do let v ← whole; standAt a.pos; holding [v] (truthy v)) := by intro _; rfl) :
    PT X a (tTruG X.K ta) := by
  refine ⟨fun pins s σ H Q I h => ?_⟩
  refine isTrue_plain (thn (ha.run pins s σ H _ I h) fun v s1 ⟨x, H1, I1, r1, q1⟩ => tru_ok pins s1 σ H1 x v Q I1 r1 ?_) (he _)
  cases x <;> first
    | exact ⟨_, rfl, q1⟩
    | exact q1
end
end G
namespace G
open PySem PySem.Spec PyProof.Rows L2
theorem cx_K {CX : CXT} {P : Program} {w : World} {K : PySem.W.Frag} {mg : Str → Option Value} {base : Heap} {N : List Str} {qual : Str} {scope : Scope} {f : Addr} {cd : Value} {A : Around} {outer : List Env} {s : Shared} {H : Hp} {E : XK} :
    (cxOf CX P w K mg base N qual scope f cd A outer s H E).K = K := rfl
/-! while, by a word and a measure, its test read at the word -/
theorem wh {c : TT} {tb : TS} {D : Ends} {σ : L2.St} {H : Hp} (Pv : L2.St → Hp → Prop) (μ : L2.St → Hp → Nat) (h0 : Pv σ H)
    (hs : ∀ σ H, Pv σ H → c σ H fun b H1 => if b = true then ∃ N : L2.St → Hp → Prop, (∀ σ' H', N σ' H' → ∃ m', m' < μ σ H ∧ (m' = μ σ' H' ∧ Pv σ' H')) ∧ tb { D with nx := N, ct := N, bk := D.nx } σ H1 else D.nx σ H1) :
    tWhile c tb D σ H := by
  refine ⟨fun m σ H => m = μ σ H ∧ Pv σ H, ⟨_, rfl, h0⟩, ?_⟩
  rintro m σ H ⟨rfl, p⟩
  exact hs σ H p
theorem wn {tb : TS} {D : Ends} {σ σ0 : L2.St} {H H0 : Hp} {B : L2.St → Hp → Prop} {Pv : L2.St → Hp → Prop} {μ : L2.St → Hp → Nat} {m : Nat}
    (h : tb { D with nx := fun σ' H' => μ σ' H' < m ∧ Pv σ' H', ct := fun σ' H' => μ σ' H' < m ∧ Pv σ' H', bk := B } σ H) :
    ∃ N : L2.St → Hp → Prop, (∀ σ' H', N σ' H' → ∃ m', m' < m ∧ (m' = μ σ' H' ∧ Pv σ' H')) ∧ tb { D with nx := N, ct := N, bk := B } σ H :=
  ⟨_, fun σ' H' q => ⟨_, q.1, rfl, q.2⟩, h⟩
/-! texts -/
theorem tl_S (l : List Nat) : tl (S l) = l := rfl
theorem S_tl (x : Str) : S (tl x) = x := SX.S_tl x
theorem len_tl (x : Str) : x.length = (tl x).length := TL.len_tl x
theorem len_S (l : List Nat) : (S l).length = l.length := SX.S_len l
theorem tl_cat (x y : Str) : tl (x ++ y) = tl x ++ tl y := TL.tl_append x y
theorem tl_cut (z : Str) (i j : Nat) : tl (cutS z (some (i : Int)) (some (j : Int))) = ((tl z).drop i).take (j - i) := by
  have h1 : HT.sIx z.length 0 (some (i : Int)) = min i z.length := HT.sIx_nat z.length 0 i
  have h2 : HT.sIx z.length z.length (some (j : Int)) = min j z.length := HT.sIx_nat z.length z.length j
  show ((tl z).drop _).take _ = _
  rw [h1, h2, len_tl]
  by_cases hi : i ≤ (tl z).length
  · rw [Nat.min_eq_left hi]
    by_cases hj : j ≤ (tl z).length
    · rw [Nat.min_eq_left hj]
    · rw [Nat.min_eq_right (show (tl z).length ≤ j by omega), List.take_of_length_le (by rw [List.length_drop]; omega), List.take_of_length_le (by rw [List.length_drop]; omega)]
  · rw [Nat.min_eq_right (show (tl z).length ≤ i by omega), List.drop_eq_nil_of_le (Nat.le_refl _), List.drop_eq_nil_of_le (show (tl z).length ≤ i by omega), List.take_nil, List.take_nil]
theorem tl_cut0 (z : Str) (j : Nat) : tl (cutS z none (some (j : Int))) = (tl z).take j := by
  have h1 : HT.sIx z.length 0 none = 0 := HT.sIx_none ..
  have h2 : HT.sIx z.length z.length (some (j : Int)) = min j z.length := HT.sIx_nat z.length z.length j
  show ((tl z).drop _).take _ = _
  rw [h1, h2, len_tl, List.drop_zero, Nat.sub_zero]
  by_cases hj : j ≤ (tl z).length
  · rw [Nat.min_eq_left hj]
  · rw [Nat.min_eq_right (show (tl z).length ≤ j by omega), List.take_of_length_le (by omega), List.take_of_length_le (by omega)]
theorem tl_cut1 (z : Str) (i : Nat) : tl (cutS z (some (i : Int)) none) = (tl z).drop i := by
  have h1 : HT.sIx z.length 0 (some (i : Int)) = min i z.length := HT.sIx_nat z.length 0 i
  have h2 : HT.sIx z.length z.length none = z.length := HT.sIx_none ..
  show ((tl z).drop _).take _ = _
  rw [h1, h2, len_tl]
  by_cases hi : i ≤ (tl z).length
  · rw [Nat.min_eq_left hi, List.take_of_length_le (by rw [List.length_drop]; omega)]
  · rw [Nat.min_eq_right (show (tl z).length ≤ i by omega), List.drop_eq_nil_of_le (Nat.le_refl _), List.drop_eq_nil_of_le (show (tl z).length ≤ i by omega), List.take_nil]
theorem str_eta {x y : Str} (h : tl x = tl y) : x = y := TL.ext_tl h
end G
namespace G
open PySem PySem.Spec PyProof.Rows L2
theorem line_of {n : Nat} (h : n ≤ 100000) : n ≤ sizeLine := Nat.le_trans h (by decide)
/-- a next turn's word, chosen -/
theorem exN {R : L2.St → Hp → Prop} {a : L2.St} {b : Hp} (h : R a b) : ∃ N : L2.St → Hp → Prop, (∀ σ' H', N σ' H' → R σ' H') ∧ N a b := ⟨R, fun _ _ x => x, h⟩
theorem exN_iff {R : L2.St → Hp → Prop} {a : L2.St} {b : Hp} : (∃ N : L2.St → Hp → Prop, (∀ σ' H', N σ' H' → R σ' H') ∧ N a b) ↔ R a b := ⟨fun ⟨_, h, x⟩ => h _ _ x, exN⟩
/-- while, the word by the measure -/
theorem whm {c : TT} {tb : TS} {D : Ends} {σ : L2.St} {H : Hp} (Pv : Nat → L2.St → Hp → Prop) (m0 : Nat) (h0 : Pv m0 σ H)
    (hs : ∀ m σ H, Pv m σ H → c σ H fun b H1 => if b = true then ∃ N : L2.St → Hp → Prop, (∀ σ' H', N σ' H' → ∃ m', m' < m ∧ Pv m' σ' H') ∧ tb { D with nx := N, ct := N, bk := D.nx } σ H1 else D.nx σ H1) :
    tWhile c tb D σ H := ⟨Pv, ⟨m0, h0⟩, hs⟩
theorem sameI {H : Hp} {p : Addr} {o : HO} (h : H p = none) : Same H (upd H p o) := fun b u e => by
  rw [upd_ne (ne_of_none e h)]
  exact e
end G
namespace G
theorem dec1 (c j : Nat) : decide (tl (S [c]) = tl (S [j])) = decide (c = j) := by
  show decide ([c] = [j]) = _
  simp
end G
namespace G
open PySem PySem.Spec PyProof.Rows L2
/-! an own error class with one field -/
def spInit (C : Addr) (f : Str) : Sp := fun vs H Q _ => match vs with
  | [.ref a, v] => H a = some (exo a C none) ∧ ∀ dx, H dx = none → dx ≠ a → Q .non (upd (upd H dx (exd dx [(f, v)])) a (exo a C (some dx)))
  | _ => False
/-- what the caller of a def that raises it gets -/
def PErr (C : Addr) (f : Str) (v : V) (H : Hp) (E : XK) : Prop := ∀ d H', Same H H' → H d = none → H' d = some (.xd [(f, v)]) → E (.ref C) (some d) H'
structure ErrOk (P : Program) (w : World) (K : PySem.W.Frag) (mg : Str → Option Value) (base : Heap) (x f : Str) (C : Addr) : Prop where
  gC : mg x = some (.ref C)
  ox : OexC K C
  xf : XfC K C
  no : PySem.W.findIn K (.ref C) f = some none
  self : PySem.W.exmOne K (.ref C) (.ref C) = some true
  ini : ∃ (fI : Addr) (fd : FuncData) (ps : List Str), PySem.W.findIn K (.ref C) "__init__" = some (some (.ref fI)) ∧ PySem.W.typeIn K (.ref fI) = some (.type "function") ∧ FnOk P w K mg base (L2.CX P w) 1 fI fd ps (spInit C f) ∧ Binds K fd ps []
def rMk (C : Addr) (f : Str) (vs : List V) (H1 : Hp) (Q : XK) : Prop := vs.length ≤ 1000 ∧ ∀ a, H1 a = none → spInit C f (.ref a :: (vs ++ [])) (upd H1 a (exo a C none))
  (fun v H2 => v = .non ∧ ∃ (d : Addr) (fs : List (Str × V)), H2 a = some (exo a C (some d)) ∧ H2 d = some (exd d fs) ∧ H1 d = none ∧ Q (.ref C) (some d) (upd (del H2 a) d (.xd fs))) (fun _ _ _ => False)
theorem rMk_of {C : Addr} {f : Str} {v : V} {H : Hp} {Q : XK} (h : PErr C f v H Q) : rMk C f [v] H Q := by
  refine ⟨by show 1 ≤ 1000; decide, fun a ha => ?_⟩
  refine ⟨upd_same, fun dx hdx hne => ⟨rfl, dx, [(f, v)], upd_same, ?_, ?_, ?_⟩⟩
  · rw [upd_ne hne, upd_same]
  · rw [upd_ne hne] at hdx
    exact hdx
  · rw [upd_ne hne] at hdx
    refine h dx _ (fun b o e => ?_) hdx upd_same
    have h1 : b ≠ dx := ne_of_none e hdx
    have h2 : b ≠ a := ne_of_none e ha
    rw [upd_ne h1, del_ne h2, upd_ne h2, upd_ne h1, upd_ne h2]
    exact e
def tRaiseC (C : Addr) (f : Str) (W : WX) (ta : TA) : TS := fun _ σ H => ta σ H fun vs H1 => rMk C f vs H1 fun cls d H' => W cls d σ H'
theorem ps_raiseC {X : Cx} {x f : Str} {C : Addr} {W : WX} {a : Expr} {ta : TA} {p pos pos2 : Pos} (R : ErrOk X.prog X.w X.K X.mg X.base x f C) (hr : Room 2 X.A) (tk : Takes X W) (ha : PA X [a] ta) (hc : X.calm = true := by rfl) (hg : Gl X x := by rfl)
    (hdb : (x == ("__debug__" : Str)) = false := by decide) (he : starEach [a] X.env = (false, eval a X.env) :: starEach [] X.env := by rfl) (hpl : (backTo pos (starEach [] X.env)).any (·.1) = false := by rfl) :
    PS X (.Raise (some (.Call (.Name x p) [a] [] pos)) none pos2) (tRaiseC C f W ta) := by
  obtain ⟨fI, fd, ps, h1, h2, F, hb⟩ := R.ini
  have E0' : Passes (L2.CX X.prog X.w) X (fun _ _ _ => False) := passL
  exact ps_raise hc tk (pmk_oex R.ox h1 h2 F hr hb .nil E0' hg R.gC ha hdb he hpl)
end G
namespace G
open PySem PySem.Spec PyProof.Rows L2
section
variable {i : Int} {z : Str} {k : Bool} {H : Hp} {Q : VK}
theorem kit_ii : kitB "int" "int" = some true := by decide +kernel
theorem kit_ib : kitB "int" "bool" = some false := by decide +kernel
theorem kit_ss : kitB "str" "str" = some true := by decide +kernel
theorem isi_of {x : V} {n : String} {b : Bool} (h1 : flatV x = true) (h2 : tyOf x ≠ "") (h : kitB (tyOf x) n = some b) : rIsiG [x, .ty n] H Q ↔ Q (.bl b) H := by
  constructor
  · intro ⟨_, _, c, e, q⟩
    rw [h] at e
    cases e
    exact q
  · intro q
    exact ⟨h1, h2, b, h, q⟩
theorem isi_ii : rIsiG [.int i, .ty "int"] H Q ↔ Q (.bl true) H := isi_of rfl (show ("int" : String) ≠ "" by decide) kit_ii
theorem isi_ib : rIsiG [.int i, .ty "bool"] H Q ↔ Q (.bl false) H := isi_of rfl (show ("int" : String) ≠ "" by decide) kit_ib
theorem isi_ss : rIsiG [.str z, .ty "str"] H Q ↔ Q (.bl true) H := isi_of rfl (show ("str" : String) ≠ "" by decide) kit_ss
end
end G
namespace G
open PySem PySem.Spec PyProof.Rows L2
/-- a written dict that lacks a name, read through any view of it -/
theorem ns_lacks {K : PySem.W.Frag} {h : Heap} {ns : Addr} {m : Str → Option Value} {n : Str} (X : K.In h) (G : h.Ns ns m) (e : PySem.W.nsIn K ns n = some none) : m n = none := by
  obtain ⟨o, es, ep, ho, hd, _, hf⟩ := G
  rw [← hf n]
  unfold PySem.W.nsIn at e
  cases q : K.lookup ns with
  | none => rw [q] at e; cases e
  | some o' =>
    have h2 : h.get? ns = some o' := X _ _ q
    rw [ho] at h2
    cases h2
    obtain ⟨c, d, dt, sl⟩ := o
    have hd' : dt = .dict es ep := hd
    subst hd'
    rw [q] at e
    have e2 : (match es.toList.find? (·.key.isStr n) with
      | some e => some (some e.val)
      | none => if es.toList.any (·.refKey) then none else some none) = some none := e
    unfold nsFind findBy
    rw [← Array.find?_toList]
    cases r : es.toList.find? (·.key.isStr n) with
    | none => rfl
    | some z => rw [r] at e2; cases e2
theorem noDig {X : Cx} {pins : List (Addr × Obj)} {σ : L2.St} {H : Hp} {s : Shared} (I : Inv X pins σ H s) (e : PySem.W.nsIn X.K cStatics "sys.int_max_str_digits" = some none) : s.heap.NoDigits := by
  obtain ⟨mc, hn, _⟩ := I.nolimit
  exact ⟨mc, hn, ns_lacks I.kIn hn e⟩
/-- two digits -/
def dig2 (n : Nat) : List Nat := [48 + n / 10, 48 + n % 10]
theorem ofStr_nat : ∀ n : Fin 100, (if n.val < 10 then ([48] : List Nat) ++ tl (Str.ofString (toString (n.val : Int))) else tl (Str.ofString (toString (n.val : Int)))) = dig2 n.val := by decide +kernel
def tFmt02 (te : TE) : TE := fun σ H Q => te σ H fun x H1 => ∃ i : Nat, x = .int (i : Int) ∧ i < 100 ∧ Q (.str (S (dig2 i))) H1
theorem pe_fmtS {X : Cx} {e : Expr} {te : TE} {j : Nat} {p p2 pos : Pos} (nd : PySem.W.nsIn X.K cStatics "sys.int_max_str_digits" = some none) (he : PE X e te) :
    PE X (.FormattedValue e (-1) (some (.JoinedStr [.Constant (.str "02d") j p] p2)) pos) (tFmt02 te) := by
  refine ⟨fun pins s σ H Q I h => ?_⟩
  refine wpAny_FormattedValue_spec (thn (he.run pins s σ H _ I h) fun v s1 ⟨x, H1, I1, r1, i, ex, hi, q⟩ => ?_)
  subst ex
  obtain ⟨t, rfl⟩ := r1
  refine wpAny_JoinedStr_one ?_
  refine Calls.Constant_str ?_
  refine ⟨_, _, rfl, ?_⟩
  refine PySem.W.KXf.field_sym (W := 2) (noDig (I1.tok _) nd) (by omega) (by omega) (by decide +kernel) (by decide +kernel) (by decide +kernel) fun t' k f hlo hhi => ?_
  have hp := f.pad2 (by decide +kernel) rfl (by omega) (by omega)
  refine ⟨.str (S (dig2 i)), H1, I1.tok k, ⟨t', ?_⟩, q⟩
  have hz := ofStr_nat ⟨i, hi⟩
  have e2 : intSpecTextOf (Str.ofString "02d") (i : Int) = S (dig2 i) := by
    refine TL.ext_tl ?_
    show tl _ = dig2 i
    rw [← hz]
    show tl (intSpecTextOf (Str.ofString "02d") (i : Int)) = if i < 10 then ([48] : List Nat) ++ tl (Str.ofString (toString (i : Int))) else tl (Str.ofString (toString (i : Int)))
    have hp' : intSpecTextOf (Str.ofString "02d") (i : Int) = if decide ((i : Int) < 10) = true then (⟨#[48]⟩ : Str) ++ Str.ofString (toString (i : Int)) else Str.ofString (toString (i : Int)) := hp
    rw [hp']
    by_cases h10 : i < 10
    · rw [decide_eq_true (by omega : (i : Int) < 10), if_pos rfl, if_pos h10, tl_cat]
    · rw [decide_eq_false (by omega : ¬ (i : Int) < 10), if_neg Bool.false_ne_true, if_neg h10]
  exact congrArg (fun z => Value.str z t') e2
end G
namespace G
open PySem PySem.Spec PyProof.Rows L2
theorem gTup_of {K : PySem.W.Frag} {n : Nat} {t : TGs} {p : Addr} {σ : L2.St} {H : Hp} {Q : L2.St → Hp → Prop} {xs : List V} (h : H p = some (.tup xs)) (hn : xs.length = n) (q : t xs σ H Q) : gTup K n t (.ref p) σ H Q :=
  ⟨p, xs, rfl, SqT.of h, hn, q⟩
theorem gLst_of {K : PySem.W.Frag} {n : Nat} {t : TGs} {p : Addr} {σ : L2.St} {H : Hp} {Q : L2.St → Hp → Prop} {xs : List V} (h : H p = some (.lst xs)) (hn : xs.length = n) (q : t xs σ H Q) : gLst K n t (.ref p) σ H Q :=
  ⟨p, xs, rfl, SqL.of h, hn, q⟩
def numL (n : Nat) : List Nat := tl (Str.ofString (toString (n : Int)))
end G
namespace G
open PySem PySem.Spec PyProof.Rows L2
theorem gCons_c {t : TG} {u : TGs} {x : V} {r : List V} {σ : L2.St} {H : Hp} {Q : L2.St → Hp → Prop} : gCons t u (x :: r) σ H Q ↔ t x σ H (fun σ' H' => u r σ' H' Q) :=
  ⟨fun ⟨v, r', e, h⟩ => by cases e; exact h, fun h => ⟨_, _, rfl, h⟩⟩
theorem gNil_c {σ : L2.St} {H : Hp} {Q : L2.St → Hp → Prop} : gNil [] σ H Q ↔ Q σ H := ⟨fun h => h.2, fun h => ⟨rfl, h⟩⟩
theorem S_cat (a b : List Nat) : S a ++ S b = S (a ++ b) := SX.S_cat a b
theorem S_nil : Str.empty = S [] := rfl
theorem dig2_len (n : Nat) : (dig2 n).length = 2 := rfl
theorem numL_eq (n : Nat) : numL n = (Nat.toDigits 10 n).map Char.toNat := by
  unfold numL
  show TL.tl _ = _
  rw [TL.tl_ofString]
  show (Nat.repr n).toList.map Char.toNat = _
  rw [Nat.toList_repr]
theorem numL_len {n k : Nat} (h : n < 10 ^ k) (hk : 0 < k) : (numL n).length ≤ k := by
  rw [numL_eq, List.length_map]
  have e := (Nat.length_repr_le_iff (n := n) hk).mpr h
  rwa [← String.length_toList, Nat.toList_repr] at e
theorem toS_nat (n : Nat) : Str.ofString (toString (n : Int)) = S (numL n) := (S_tl _).symm
end G
namespace G
open PySem PySem.Spec PyProof.Rows L2
def tFmtG (te : TE) : TE := fun σ H Q => te σ H fun x H1 => match x with
  | .str y => y.length ≤ sizeLine ∧ Q (.str y) H1
  | .int i => i.natAbs.log2 < 1920 ∧ Q (.str (Str.ofString (toString i))) H1
  | _ => False
theorem pe_fmtG {X : Cx} {e : Expr} {te : TE} {pos : Pos} (he : PE X e te) : PE X (.FormattedValue e (-1) none pos) (tFmtG te) := by
  refine ⟨fun pins s σ H Q I h => ?_⟩
  refine wpAny_FormattedValue_plain (thn (he.run pins s σ H _ I h) fun v s1 hv => ?_)
  obtain ⟨x, H1, I1, r1, q⟩ := hv
  cases x with
  | str y =>
    obtain ⟨t, rfl⟩ := r1
    exact wpAny_formatField_str ⟨.str y, H1, I1, ⟨t, rfl⟩, q.2⟩ ⟨.str y, H1, I1.tok _, ⟨_, rfl⟩, q.2⟩ q.1
  | int i =>
    obtain ⟨t, rfl⟩ := r1
    exact wpAny_formatField_int q.1 ⟨.str (Str.ofString (toString i)), H1, I1.tok _, ⟨_, rfl⟩, q.2⟩
  | _ => exact False.elim q
theorem log2_small {n : Nat} (h : n < 2 ^ 60) : n.log2 < 1920 := by
  by_cases h0 : n = 0
  · subst h0
    decide
  · have := (Nat.log2_lt h0).mpr h
    omega
end G
namespace G
open PySem PySem.Spec PyProof.Rows L2
theorem PErr.mono {C : Addr} {f : Str} {v : V} {H H1 : Hp} {E : XK} (h : PErr C f v H E) (s : Same H H1) : PErr C f v H1 E := fun d H' s' n e => h d H' (s.trans s') (s.free n) e
/-- a tracked new thing is another one than what was tracked -/
theorem ne_new {H : Hp} {a p : Addr} {o : HO} (h : H a = some o) (hp : H p = none) : a ≠ p := ne_of_none h hp
theorem same_mut {H H1 : Hp} {l : Addr} {o : HO} (s : Same H H1) (n : H l = none) : Same H (upd H1 l o) := fun b u e => by
  rw [upd_ne (ne_of_none e n)]
  exact s b u e
end G
namespace G
open PySem PySem.Spec PyProof.Rows L2
/-! zip of two things, each a list or a tuple -/
def SqB (K : PySem.W.Frag) (k : Bool) (H : Hp) (a : Addr) (xs : List V) : Prop := if k = true then SqL K H a xs else SqT K H a xs
def ItB (k : Bool) (h : Heap) (it a : Addr) (i : Nat) : Prop := if k = true then h.IsListIter it a i else h.IsTupleIter it a i
def SeB (k : Bool) (h : Heap) (a : Addr) (xs : Array Value) : Prop := if k = true then h.IsList a xs else h.IsTuple a xs
theorem drawB {P : Program} {w : World} {A : Around} (hh : A.handled = none) (k : Bool) (it a : Addr) (hne : a ≠ it) (items : Array Value) :
    Draws P w A it [it, a] items.size (fun i v => items[i]? = some v) (fun i h => ItB k h it a i ∧ SeB k h a items) := by
  cases k with
  | true => exact Draws.list hh it a hne items
  | false => exact Draws.tuple hh it a hne items
theorem invB {X : Cx} {pins : List (Addr × Obj)} {σ : L2.St} {H : Hp} {s : Shared} {k : Bool} {a : Addr} {xs : List V} (I : Inv X pins σ H s) (h : SqB X.K k H a xs) : ∃ its : List Value, Vals xs its ∧ SeB k s.heap a its.toArray ∧ a < s.heap.objs.size := by
  cases k with
  | true =>
    obtain ⟨its, r, p, _⟩ := I.list h
    exact ⟨its, r, p.isList, p.lt⟩
  | false =>
    obtain ⟨its, r, p, _⟩ := I.tuple h
    obtain ⟨o, ho, _⟩ := id p
    exact ⟨its, r, p, Heap.lt_size ho⟩
theorem injB {X : Cx} {pins : List (Addr × Obj)} {σ : L2.St} {H : Hp} {s : Shared} {k : Bool} {a : Addr} {xs ys : List V} (I : Inv X pins σ H s) (h : SqB X.K k H a xs) (h' : SqB X.K k H a ys) : xs = ys := by
  cases k with
  | true => exact I.list_inj h h'
  | false => exact I.tuple_inj h h'
theorem objB {k : Bool} {h : Heap} {it a : Addr} {i : Nat} (x : ItB k h it a i) : ∃ o, h.get? it = some o ∧ ∀ v, o.data ≠ .cell v := by
  cases k with
  | true =>
    obtain ⟨o, e, _, d⟩ := (show h.IsListIter it a i from x)
    exact ⟨o, e, fun v q => by rw [d] at q; cases q⟩
  | false =>
    obtain ⟨o, e, _, d⟩ := (show h.IsTupleIter it a i from x)
    exact ⟨o, e, fun v q => by rw [d] at q; cases q⟩
theorem atB {k : Bool} {h h' : Heap} {it a : Addr} {i : Nat} (x : ItB k h it a i) (f : ∀ o, h.get? it = some o → h'.get? it = some o) : ItB k h' it a i := by
  cases k with
  | true => exact (show h.IsListIter it a i from x).at f
  | false => exact (show h.IsTupleIter it a i from x).at f
def ItzG (K : PySem.W.Frag) (k1 k2 : Bool) (a b : Addr) : It :=
  ⟨fun i H => ∃ (xs ys : List V) (x y : V), SqB K k1 H a xs ∧ SqB K k2 H b ys ∧ xs[i]? = some x ∧ ys[i]? = some y,
    fun i H v H' => ∃ T x y, v = .ref T ∧ H T = none ∧ H' = upd H T (.tup [x, y]) ∧ (∀ xs, SqB K k1 H a xs → xs[i]? = some x) ∧ ∀ ys, SqB K k2 H b ys → ys[i]? = some y,
    fun i H => ∃ xs ys : List V, SqB K k1 H a xs ∧ SqB K k2 H b ys ∧ i ≤ xs.length ∧ i ≤ ys.length ∧ (i = xs.length ∨ i = ys.length)⟩
theorem turn_zipG {P : Program} {w : World} {K : PySem.W.Frag} {elts : List Expr} {kk : Nat} {tpos : Pos} {k1 k2 : Bool} {a b z TI TO i1 i2 : Addr} (D : ZipSep2 z TI TO i1 i2 [i1, a] [i2, b]) (ai : a ≠ i1) (bi : b ≠ i2) :
    Turn P w K (.Tuple elts kk tpos) (ItzG K k1 k2 a b) [z, TI, TO, i1, i2] z (fun i h => IsZip h z TI TO .none ∧ IsTupOf2 h TI (.ref i1) (.ref i2) ∧ (∃ x y, IsTupOf2 h TO x y) ∧ ItB k1 h i1 a i ∧ ItB k2 h i2 b i) where
  mem := by simp
  obj := fun i h st c hc => by
    obtain ⟨hz, hTI, ⟨x, y, hTO⟩, h1, h2⟩ := st
    have e' : c = z ∨ c = TI ∨ c = TO ∨ c = i1 ∨ c = i2 := by simpa using hc
    rcases e' with q | q | q | q | q
    · rw [q]; exact ⟨_, hz, fun v q => nomatch q⟩
    · rw [q]; exact ⟨_, hTI, fun v q => nomatch q⟩
    · rw [q]; exact ⟨_, hTO, fun v q => nomatch q⟩
    · rw [q]; exact objB h1
    · rw [q]; exact objB h2
  keep := fun i h h' st k => by
    obtain ⟨hz, hTI, ⟨x, y, hTO⟩, h1, h2⟩ := st
    exact ⟨k z (by simp) _ hz, k TI (by simp) _ hTI, ⟨x, y, k TO (by simp) _ hTO⟩, atB h1 fun o q => k i1 (by simp) o q, atB h2 fun o q => k i2 (by simp) o q⟩
  item := by
    intro X hP hw hK hc i pins s σ H E I hf st hg
    subst hP hw hK
    obtain ⟨hz, hTI, ⟨x0, y0, hTO⟩, h1, h2⟩ := st
    obtain ⟨xs, ys, x, y, hqx, hqy, hx, hy⟩ := hg
    obtain ⟨its, rv, p, pa⟩ := invB I hqx
    obtain ⟨its2, rv2, p2, pb⟩ := invB I hqy
    obtain ⟨u, hu, ru⟩ := rv.get hx
    obtain ⟨u2, hu2, ru2⟩ := rv2.get hy
    have hzl : z < s.heap.objs.size := Heap.lt_size hz
    have hh : X.A.in1.handled = none := I.ok.hd hc
    have lx : i < its.toArray.size := (List.getElem?_eq_some_iff.mp hu).1
    have ly : i < its2.toArray.size := (List.getElem?_eq_some_iff.mp hu2).1
    refine wpAny_pyNext_zipD2_item D (drawB hh k1 i1 a ai its.toArray) (drawB hh k2 i2 b bi its2.toArray) hz hTI hTO ⟨h1, p⟩ ⟨h2, p2⟩ lx ly fun v1 v2 h' tk e1 e2 z' TO' h1' h2' hT hsz hk => ?_
    have e1' : u = v1 := by
      have q : some u = some v1 := hu.symm.trans (by simpa using e1)
      exact Option.some.inj q
    have e2' : u2 = v2 := by
      have q : some u2 = some v2 := hu2.symm.trans (by simpa using e2)
      exact Option.some.inj q
    subst e1' e2'
    refine ⟨_, rfl, wpAny_letOwnedTupleGo_zip (s := { s with heap := h', toks := tk }) z' fun h'' z'' sb => ?_⟩
    have hT2 : h''.get? s.heap.objs.size = some { cls := .type "tuple", data := .seq #[u, u2] } := (sb.2 _ (Nat.ne_of_gt hzl)).trans hT
    have new : ObjOk X.prog X.w (upd H s.heap.objs.size (.tup [x, y])) h'' s.heap.objs.size (.tup [x, y]) :=
      ⟨by show 2 ≤ sizeLine; decide, [u, u2], .cons ru (.cons ru2 .nil), ⟨_, hT2, rfl, _, rfl⟩⟩
    have I1 : Inv X pins σ (upd H s.heap.objs.size (.tup [x, y])) { s with heap := h'', toks := tk } :=
      I.turnedNew (t' := tk) (ch := [z, TI, TO, i1, i2]) (fun c o hb q => (sb.2 c (fun q' => hb (by simp [q']))).trans (hk c o (fun q' => hb (by simp [q'])) (fun q' => hb (by simp [q'])) (fun q' => hb (by simp [q'])) (fun q' => hb (by simp [q'])) q)) hf (Nat.le_refl _) new
    refine ⟨.ref s.heap.objs.size, _, I1, rfl, ⟨_, x, y, rfl, I.hok.fresh (Nat.le_refl _), rfl, fun l hl => by rw [injB I hl hqx]; exact hx, fun l hl => by rw [injB I hl hqy]; exact hy⟩, ⟨z'', ?_, ⟨u, u2, ?_⟩, ?_, ?_⟩, fun c hcm => ?_⟩
    · exact (sb.2 _ D.TIz).trans (hk _ _ D.TIz D.TITO D.TIi1 D.TIi2 hTI)
    · exact (sb.2 _ D.TOz).trans TO'
    · exact atB h1'.1 fun o q => (sb.2 _ (Ne.symm D.zi1)).trans q
    · exact atB h2'.1 fun o q => (sb.2 _ (Ne.symm D.zi2)).trans q
    · have hlt : c < s.heap.objs.size := by
        have e' : c = z ∨ c = TI ∨ c = TO ∨ c = i1 ∨ c = i2 := by simpa using hcm
        rcases e' with q | q | q | q | q
        · rw [q]; exact hzl
        · rw [q]; exact Heap.lt_size hTI
        · rw [q]; exact Heap.lt_size hTO
        · rw [q]; obtain ⟨_, e1, _⟩ := objB h1; exact Heap.lt_size e1
        · rw [q]; obtain ⟨_, e2, _⟩ := objB h2; exact Heap.lt_size e2
      rw [upd_ne (Nat.ne_of_lt hlt)]
      exact (hf c hcm).1
  done := by
    intro X hP hw hK hc i pins s σ H E I hf st hg
    subst hP hw hK
    obtain ⟨hz, hTI, ⟨x0, y0, hTO⟩, h1, h2⟩ := st
    obtain ⟨xs, ys, hqx, hqy, b1, b2, hend⟩ := hg
    obtain ⟨its, rv, p, pa⟩ := invB I hqx
    obtain ⟨its2, rv2, p2, pb⟩ := invB I hqy
    have l1 := rv.length
    have l2 := rv2.length
    have hh : X.A.in1.handled = none := I.ok.hd hc
    exact wpAny_pyNext_zipD2_end D (drawB hh k1 i1 a ai its.toArray) (drawB hh k2 i2 b bi its2.toArray) hz hTI hTO ⟨h1, p⟩ ⟨h2, p2⟩ (by simp; omega) (by simp; omega) (by simp; omega) fun h' tk hk =>
      ⟨rfl, I.turnedL (t' := tk) (ch := [z, TI, TO, i1, i2]) (fun c o hb q =>
        hk c o (fun q' => hb (by simp [q'])) (fun q' => hb (by simp [q'])) (fun q' => hb (by simp [q'])) (fun q' => hb (by simp [q'])) q) hf⟩
  self := fun A i s Q E st h => wpAny_pyIter_zip st.1 h
def iZipG (K : PySem.W.Frag) (k1 k2 : Bool) (ta : TA) : TI := fun σ H R => ta σ H fun vs H1 => ∃ a b xs ys, vs = [.ref a, .ref b] ∧ SqB K k1 H1 a xs ∧ SqB K k2 H1 b ys ∧ R (ItzG K k1 k2 a b) H1
def beginO (k : Bool) (a : Addr) : Obj := if k = true then { cls := .type "list_iterator", data := .fields #[.ref a, .int 0 0] } else { cls := .type "tuple_iterator", data := .fields #[.ref a, .int 0 0] }
theorem beginB (k : Bool) (a : Addr) (items : Array Value) : Begins (.ref a) (beginO k a) (fun h => SeB k h a items) := by
  cases k with
  | true => exact begins_list a items
  | false => exact begins_tuple a items
theorem beginI {k : Bool} {a it : Addr} {h : Heap} (e : h.get? it = some (beginO k a)) : ItB k h it a 0 := by
  cases k with
  | true => exact ⟨_, e, rfl, rfl⟩
  | false => exact ⟨_, e, rfl, rfl⟩
theorem pi_zipG {X : Cx} {k1 k2 : Bool} {e e2 : Expr} {ta : TA} {p pos tpos : Pos} {elts : List Expr} {kk : Nat} (hg : Gl X "zip") (hm : X.mg "zip" = none) (ha : PA X [e, e2] ta)
    (hs : starEach [e, e2] X.env = (false, eval e X.env) :: starEach [e2] X.env := by rfl) (hpl : (backTo pos (starEach [e2] X.env)).any (·.1) = false := by rfl) :
    PI X (.Tuple elts kk tpos) (.Call (.Name "zip" p) [e, e2] [] pos) (iZipG X.K k1 k2 ta) := by
  refine ⟨fun pins s σ H R I h => ?_⟩
  refine Call_ (ld_blt I hg hm PyProof.Rows.boot_zip (PyProof.Rows.callWith_type1 (thn (ha.run pos pins s σ H _ I h) fun us s1 ⟨vs, H1, I1, r1, q1⟩ => ?_) hs hpl))
  obtain ⟨a, b, xs, ys, ex, hqx, hqy, q⟩ := q1
  subst ex
  cases r1 with
  | cons r rr =>
    cases rr with
    | cons r' rr =>
      cases rr
      cases r
      cases r'
      have fresh5 : ∀ c, c ∈ [s1.heap.objs.size + 4, s1.heap.objs.size + 2, s1.heap.objs.size + 3, s1.heap.objs.size, s1.heap.objs.size + 1] → FpOk X pins H1 c := fun c hcm => by
        have e' : c = s1.heap.objs.size + 4 ∨ c = s1.heap.objs.size + 2 ∨ c = s1.heap.objs.size + 3 ∨ c = s1.heap.objs.size ∨ c = s1.heap.objs.size + 1 := by simpa using hcm
        have hle : s1.heap.objs.size ≤ c := by
          rcases e' with z | z | z | z | z
          · rw [z]; exact Nat.le_add_right _ _
          · rw [z]; exact Nat.le_add_right _ _
          · rw [z]; exact Nat.le_add_right _ _
          · rw [z]; exact Nat.le_refl _
          · rw [z]; exact Nat.le_add_right _ _
        exact I1.fpOk hle (I1.hok.fresh hle)
      obtain ⟨its, rv, p1, pa⟩ := invB I1 hqx
      obtain ⟨its2, rv2, p2, pb⟩ := invB I1 hqy
      refine zip_begins2 (beginB k1 a its.toArray) (beginB k2 b its2.toArray) p1 p2 fun h' hz hTI hTO h1 h2 hsz hk => wpAny_pyIter_zip hz ?_
      have I2 : Inv X pins σ H1 { s1 with heap := h' } := I1.kept (t' := s1.toks) hk
      exact ⟨s1.heap.objs.size + 4, [s1.heap.objs.size + 4, s1.heap.objs.size + 2, s1.heap.objs.size + 3, s1.heap.objs.size, s1.heap.objs.size + 1], _, _, H1, rfl, I2,
        turn_zipG (zip_sep2 (fun c hc => by have e : c = a := by simpa using hc
                                            rw [e]; exact pa) (fun c hc => by have e : c = b := by simpa using hc
                                                                              rw [e]; exact pb)) (Nat.ne_of_lt pa) (Nat.ne_of_lt (Nat.lt_succ_of_lt pb)), ⟨hz, hTI, ⟨_, _, hTO⟩, beginI h1, beginI h2⟩, fresh5, q⟩
theorem walk_zipG {K : PySem.W.Frag} {k1 k2 : Bool} {a b : Addr} {xs ys : List V} {n : Nat} (hn : n = min xs.length ys.length) : Walk (ItzG K k1 k2 a b) n (fun H => SqB K k1 H a xs ∧ SqB K k2 H b ys) (YPair (fun i => xs[i]?) (fun i => ys[i]?)) := by
  subst hn
  refine ⟨fun i _ hi q => ?_, fun _ q => ⟨xs, ys, q.1, q.2, by omega, by omega, by omega⟩, fun i H v H' _ q y => ?_⟩
  · have h1 : i < xs.length := by omega
    have h2 : i < ys.length := by omega
    exact ⟨xs, ys, xs[i], ys[i], q.1, q.2, by simp [h1], by simp [h2]⟩
  · obtain ⟨T, x, z, h1, h2, h3, h4, h5⟩ := y
    exact ⟨T, x, z, h1, h2, h3, h4 xs q.1, h5 ys q.2⟩
end G
namespace G
open PySem PySem.Spec PyProof.Rows L2
/-- a for over J, kept closed -/
def Loop (J : It) (g : TG) (tb : TS) (D : Ends) (σ : L2.St) (H : Hp) : Prop :=
  ∃ W : Nat → Nat → L2.St → Hp → Prop, (∃ m, W 0 m σ H) ∧ ∀ i m σ H, W i m σ H →
      (J.stop i H ∧ D.nx σ H) ∨ (J.go i H ∧ ∃ N : L2.St → Hp → Prop, (∀ σ' H', N σ' H' → ∃ m', m' < m ∧ W (i + 1) m' σ' H') ∧ ∀ x H', J.yld i H x H' → g x σ H' fun σ2 H2 => tb { D with nx := N, ct := N, bk := D.nx } σ2 H2)
theorem tFor_L {wi : TI} {g : TG} {tb : TS} {D : Ends} {σ : L2.St} {H : Hp} : tFor wi g tb D σ H = wi σ H fun J H1 => Loop J g tb D σ H1 := rfl
theorem Loop.by {J : It} {n : Nat} {G : Hp → Prop} {Y : Nat → Hp → V → Hp → Prop} (w : Walk J n G Y) {g : TG} {tb : TS} {D : Ends} {σ : L2.St} {H : Hp} (Pv : Nat → L2.St → Hp → Prop) (h0 : Pv 0 σ H) (hG : ∀ i σ H, i ≤ n → Pv i σ H → G H)
    (hs : ∀ i x σ H H', i < n → Pv i σ H → Y i H x H' → g x σ H' fun σ2 H2 => tb { D with nx := Pv (i + 1), ct := Pv (i + 1), bk := D.nx } σ2 H2) (hd : ∀ σ H, Pv n σ H → D.nx σ H) : Loop J g tb D σ H := for_it w Pv h0 hG hs hd
/-- a comprehension over J, kept closed -/
def LoopC (J : It) (g : TG) (tt : TT) (te : TE) (vs : List Nat) (σ : L2.St) (H1 : Hp) (D : Addr) (Qd : Hp → Prop) : Prop :=
  ∃ W : Nat → Nat → Hp → Prop, (∃ m, W 0 m (upd H1 D (.lst []))) ∧ ∀ i m H, W i m H →
      (J.stop i H ∧ Qd H) ∨ (J.go i H ∧ ∃ Nx : Hp → Prop, (∀ H', Nx H' → ∃ m', m' < m ∧ W (i + 1) m' H') ∧ ∀ x H', J.yld i H x H' → g x (wipe σ vs) H' fun σ2 H2 => wipe σ2 vs = wipe σ vs ∧ tt σ2 H2 fun b H3 =>
        if b = true then te σ2 H3 fun y H4 => ∃ acc, H4 D = some (.lst acc) ∧ acc.length < sizeLine ∧ Nx (upd H4 D (.lst (acc ++ [y]))) else Nx H3)
theorem tLc_L {wi : TI} {g : TG} {tt : TT} {te : TE} {vs : List Nat} {σ : L2.St} {H : Hp} {Q : VK} : tLc wi g tt te vs σ H Q = wi σ H fun J H1 => ∀ D, H1 D = none → LoopC J g tt te vs σ H1 D (Q (.ref D)) := rfl
theorem LoopC.by {J : It} {n : Nat} {G : Hp → Prop} {Y : Nat → Hp → V → Hp → Prop} (w : Walk J n G Y) {g : TG} {tt : TT} {te : TE} {vs : List Nat} {σ : L2.St} {H1 : Hp} {D : Addr} {Qd : Hp → Prop} (Pv : Nat → Hp → Prop) (h0 : Pv 0 (upd H1 D (.lst []))) (hG : ∀ i H, i ≤ n → Pv i H → G H)
    (hs : ∀ i x H H', i < n → Pv i H → Y i H x H' → g x (wipe σ vs) H' fun σ2 H2 => wipe σ2 vs = wipe σ vs ∧ tt σ2 H2 fun b H3 =>
      if b = true then te σ2 H3 fun y H4 => ∃ acc, H4 D = some (.lst acc) ∧ acc.length < sizeLine ∧ Pv (i + 1) (upd H4 D (.lst (acc ++ [y]))) else Pv (i + 1) H3) (hd : ∀ H, Pv n H → Qd H) : LoopC J g tt te vs σ H1 D Qd := lc_it w Pv h0 hG hs hd
/-- the first of a list dropped -/
theorem cutV_tail (xs : List V) : cutV xs (some 1) none = xs.tail := by
  unfold cutV
  rw [HT.sIx_none]
  have h1 : HT.sIx xs.length 0 (some (1 : Int)) = min 1 xs.length := HT.sIx_nat xs.length 0 1
  rw [h1]
  cases xs with
  | nil => rfl
  | cons x xs => simp
theorem isTup_of {K : PySem.W.Frag} {H : Hp} {a : Addr} {xs : List V} (h : H a = some (.tup xs)) : SqB K false H a xs := SqT.of h
theorem isLst_of {K : PySem.W.Frag} {H : Hp} {a : Addr} {xs : List V} (h : H a = some (.lst xs)) : SqB K true H a xs := SqL.of h
theorem rSet_of {p : Addr} {k : Int} {j : Nat} {v : V} {H : Hp} {Q : Hp → Prop} {xs : List V} (h : H p = some (.lst xs)) (hj : ixN xs.length k = some j) (q : Q (upd H p (.lst (xs.set j v)))) : rSetL (.ref p) (.int k) v H Q := ⟨p, xs, k, j, rfl, rfl, h, hj, q⟩
theorem upd_upd {H : Hp} {p : Addr} {a b : HO} : upd (upd H p a) p b = upd H p b := by
  funext q
  by_cases h : q = p
  · rw [h, upd_same, upd_same]
  · rw [upd_ne h, upd_ne h, upd_ne h]
theorem mul0 : ∀ k : Fin 21, Txt.mul (Str.ofString "0") ((k.val : Nat) : Int) = S (List.replicate k.val 48) := by decide +kernel
theorem mul0_of {n : Int} {k : Nat} (e : n = (k : Int)) (h : k < 21) : Txt.mul (Str.ofString "0") n = S (List.replicate k 48) := by
  rw [e]
  exact mul0 ⟨k, h⟩
theorem numL_pos (n : Nat) : 1 ≤ (numL n).length := by
  rw [numL_eq, List.length_map]
  have : Nat.toDigits 10 n ≠ [] := Nat.toDigits_ne_nil
  cases h : Nat.toDigits 10 n with
  | nil => exact absurd h this
  | cons a b => simp
end G
namespace L2
open PySem PySem.Spec PyProof.Rows
/-- a def's body, a token out when it begins -/
theorem Fun.okT {P : Program} {w : World} {K : PySem.W.Frag} {mg : Str → Option Value} {base : Heap} {x qual : Str} {st : Stmt} {f : Addr} {fd : FuncData} {N ps : List Str} {k : Nat} {sp : Sp} (F : Fun K x qual st f fd)
    (hnc : ((defScope st).names.all fun y => y.2 != .cell) = true) (hps : 1 ≤ ps.length) (S : FnScope N ps (defScope st)) (len : ∀ vs H Q E, sp vs H Q E → vs.length = ps.length)
    (hbody : ∀ (cdv : Value) (A : Around) (outer : List Env) (s : Shared) (H : Hp) (vs : List V) (Q : VK) (E : XK), Room k (A.deeper (envOfC qual (defScope st) s.heap.objs.size f cdv)) → sp vs H Q E →
      ∃ t, PSsT (cxOf (L2.CX P w) P w K mg base N qual (defScope st) f cdv A outer s H E) (defBody st) t ∧ t { nx := fun _ H' => Q .non H', rt := Q } (start N vs) H) : FnOk P w K mg base (L2.CX P w) (k + 1) f fd ps sp := by
  obtain ⟨oc, od, kV, doc, pm, an, cdv, ct, osl, rfl, lk, hcd⟩ := F.ex
  refine fn_ofT lk hcd S (fun y hy z => ?_) hps len fun A outer s H vs Q E hr hsp => hbody cdv A outer s H vs Q E hr hsp
  have q := List.all_eq_true.mp hnc y hy
  rw [z] at q
  cases q
theorem pet_m1 {X : Cx} {o e : Expr} {to te : TE} {id : String} {name : Str} {apos pos : Pos} {r : V → List V → Hp → VK → Prop} (slot : Slot "str" name id) (ty : typeOf (.builtin id) = pure (.type "method_descriptor")) (rule : MtR X id r) (ho : PET X o to) (he : PE X e te)
    (hs : starEach [e] X.env = [(false, eval e X.env)] := by rfl) (hbase : attributeBase o name X.env (eval o X.env) = eval o X.env := by rfl) (hline : (apos.endLine == pos.line) = true := by rfl) :
    PET X (.Call (.Attribute o name apos) [e] [] pos) (tM1 r to te) := by
  intro pins s σ H Q h0 I h
  refine PySem.Call_method1 hbase hs hline (thn (ho pins s σ H _ h0 I h) fun v s1 ⟨x, H1, I1, r1, q1⟩ => ?_)
  obtain ⟨⟨a, rfl⟩, q1⟩ := q1
  obtain ⟨t, rfl⟩ := _root_.id r1
  refine ⟨"str", _, F.plainAttrs_str, slot, ty, typeIs_str _ _ _, (fun _ e => nomatch e), Calls.callWith_builtin rfl (Calls.evalArgs_plain (Calls.spliced_cons ?_))⟩
  exact thn (he.run pins s1 σ H1 _ I1 q1) fun u s2 ⟨y, H2, I2, r2, q2⟩ => Calls.spliced_nil (rule pins s2 σ H2 _ [y] _ [u] Q I2 r1 (.cons r2 .nil) q2)
end L2
namespace G
open PySem PySem.Spec PyProof.Rows L2
/-! lists of texts as data -/
theorem dp_strs {K : PySem.W.Frag} {H : Hp} : ∀ ys : List Str, DpAll K H (ys.map V.str) (ys.map PyData.str)
  | [] => .nil
  | y :: ys => .cons (.str y) (dp_strs ys)
theorem lay_strs : ∀ {ys : List Str}, (∀ y ∈ ys, PyData.strOk y = true) → PyData.canLayAll0 (ys.map PyData.str) = true
  | [], _ => by simp [PyData.canLayAll0]
  | y :: ys, h => by
    simp only [List.map_cons, PyData.canLayAll0, PyData.canLay0, Bool.and_eq_true]
    exact ⟨h y (List.mem_cons_self ..), lay_strs fun z hz => h z (List.mem_cons_of_mem _ hz)⟩
theorem depth_strs : ∀ ys : List Str, PyData.depthAll (ys.map PyData.str) = 0
  | [] => by simp [PyData.depthAll]
  | y :: ys => by simp [PyData.depthAll, PyData.depth, depth_strs ys]
theorem shaped_strs {ys : List Str} (h : ∀ y ∈ ys, PyData.strOk y = true) : SeqAt.shaped (.list (ys.map PyData.str)) = true := by
  unfold SeqAt.shaped
  rw [Bool.and_eq_true]
  refine ⟨?_, decide_eq_true ?_⟩
  · rw [PyData.canLay0]
    exact lay_strs h
  · rw [PyData.depth, depth_strs]
    decide
theorem eq_nil {K : PySem.W.Frag} {H : Hp} {a b : Addr} {ys : List Str} {Q : VK} (ha : SqL K H a (ys.map V.str)) (hb : SqL K H b []) (h : ∀ y ∈ ys, PyData.strOk y = true) (q : Q (.bl (decide (ys = []))) H) : rEqD K (.ref a) (.ref b) H Q := by
  refine ⟨_, _, .lst ha (dp_strs ys), .lst hb .nil, shaped_strs h, shaped_strs (ys := []) (fun _ h => nomatch h), ?_⟩
  cases ys with
  | nil => exact q
  | cons y ys => exact q
/-! startswith -/
theorem subAt_0 (x y : Str) : Builtin.Str.subAt x y 0 = ((tl x).take (tl y).length == tl y) := by
  unfold Builtin.Str.subAt
  have h1 : (x.cps.extract 0 (0 + y.length)).toList = (tl x).take (tl y).length := by
    rw [Array.toList_extract, List.extract_eq_drop_take]
    simp [Str.length]
  rw [← h1]
  cases h : (x.cps.extract 0 (0 + y.length) == y.cps) with
  | true => rw [eq_of_beq h]; exact (beq_self_eq_true _).symm
  | false =>
    refine (beq_eq_false_iff_ne.mpr fun e => ?_).symm
    have e2 : x.cps.extract 0 (0 + y.length) = y.cps := Array.toList_inj.mp e
    rw [e2] at h
    simp at h
theorem starts_S (a : List Nat) (y : Str) : Txt.startswith (S a) y = decide (tl y <+: a) := by
  unfold Txt.startswith
  rw [subAt_0]
  show (decide (0 + y.length ≤ (S a).length) && (a.take (tl y).length == tl y)) = _
  rw [len_tl y, len_S a]
  by_cases h : tl y <+: a
  · rw [decide_eq_true h]
    have h1 := h.length_le
    have h2 := List.prefix_iff_eq_take.mp h
    rw [decide_eq_true (by omega), ← h2]
    simp
  · rw [decide_eq_false h]
    cases h1 : (a.take (tl y).length == tl y) with
    | false => simp
    | true => exact absurd (List.prefix_iff_eq_take.mpr (eq_of_beq h1).symm) h
end G
/-! the same with the module's fragment named -/
namespace G
open PySem PySem.Spec PyProof.Rows L2
section
variable {X : Cx} (K : PySem.W.Frag)
theorem op_addK (h : X.K = K := by rfl) : OpR X (binaryOp .Add) (rAddG K) := by subst h; exact op_addG
theorem op_eqK (hu : X.A.units + 64 < cLine) (h : X.K = K := by rfl) : OpR X (compareOp .Eq) (rEqG K) := by subst h; exact op_eqG hu
theorem op_neK (hu : X.A.units + 64 < cLine) (h : X.K = K := by rfl) : OpR X (compareOp .NotEq) (rNeG K) := by subst h; exact op_neG hu
theorem op_inK (h : X.K = K := by rfl) : OpR X (compareOp .In) (rInG K false) := by subst h; exact op_inG
theorem op_notInK (h : X.K = K := by rfl) : OpR X (compareOp .NotIn) (rInG K true) := by subst h; exact op_notInG
theorem ix_K (h : X.K = K := by rfl) : IxR X (rIxG K) := by subst h; exact ix_G
theorem sl_K (h : X.K = K := by rfl) : SlR X (rSlG K) := by subst h; exact sl_G
theorem call_lenK (h : X.K = K := by rfl) : CallR X (.builtin "len") (rLenG K) := by subst h; exact call_lenG
theorem pt_truK {a : Expr} {ta : TE} (ha : PE X a ta) (h : X.K = K := by rfl) (he : ∀ whole, isTrue a X.env whole = (do let v ← whole; standAt a.pos; holding [v] (truthy v)) := by intro _; rfl) : PT X a (tTruG K ta) := by
  subst h
  exact pt_truG ha he
end
end G
/-! The readings' steps, to be taken from the outside in. -/
namespace G
open PySem PySem.Spec PyProof.Rows L2
def truR (K : PySem.W.Frag) (x : V) (H : Hp) (Q : Bool → Hp → Prop) : Prop := match x with
  | .bl b => Q b H
  | .int i => Q (i != 0) H
  | .non => Q false H
  | _ => ∃ k, TruV K x H k ∧ Q k H
def iR2 (v u : V) (H : Hp) (R : It → Hp → Prop) : Prop := ∃ i j : Int, [v, u] = [.int i, .int j] ∧ (-(2 ^ 62) ≤ i ∧ i < 2 ^ 62 ∧ -(2 ^ 62) ≤ j ∧ j < 2 ^ 62) ∧ R (Itr i (j - i).toNat) H
theorem iR2_of {i j : Int} {H : Hp} {R : It → Hp → Prop} (h : -(2 ^ 62) ≤ i ∧ i < 2 ^ 62 ∧ -(2 ^ 62) ≤ j ∧ j < 2 ^ 62) (q : R (Itr i (j - i).toNat) H) : iR2 (.int i) (.int j) H R := ⟨i, j, rfl, h, q⟩
def fmtR (x : V) (H : Hp) (Q : VK) : Prop := match x with
  | .str y => y.length ≤ sizeLine ∧ Q (.str y) H
  | .int i => i.natAbs.log2 < 1920 ∧ Q (.str (Str.ofString (toString i))) H
  | _ => False
theorem tV0 {v : V} {r : L2.St} {H : Hp} {Q : VK} : tVar 0 (some v :: r) H Q ↔ Q v H := ⟨fun ⟨_, e, h⟩ => by cases e; exact h, fun h => ⟨_, rfl, h⟩⟩
theorem gN0 {v : V} {r : L2.St} {H : Hp} {o : Option V} {Q : L2.St → Hp → Prop} : gName 0 v (o :: r) H Q ↔ Q (some v :: r) H := Iff.rfl
theorem tV1 {a0 : Option V} {v : V} {r : L2.St} {H : Hp} {Q : VK} : tVar 1 (a0 :: some v :: r) H Q ↔ Q v H := ⟨fun ⟨_, e, h⟩ => by cases e; exact h, fun h => ⟨_, rfl, h⟩⟩
theorem gN1 {a0 : Option V} {v : V} {r : L2.St} {H : Hp} {o : Option V} {Q : L2.St → Hp → Prop} : gName 1 v (a0 :: o :: r) H Q ↔ Q (a0 :: some v :: r) H := Iff.rfl
theorem tV2 {a0 a1 : Option V} {v : V} {r : L2.St} {H : Hp} {Q : VK} : tVar 2 (a0 :: a1 :: some v :: r) H Q ↔ Q v H := ⟨fun ⟨_, e, h⟩ => by cases e; exact h, fun h => ⟨_, rfl, h⟩⟩
theorem gN2 {a0 a1 : Option V} {v : V} {r : L2.St} {H : Hp} {o : Option V} {Q : L2.St → Hp → Prop} : gName 2 v (a0 :: a1 :: o :: r) H Q ↔ Q (a0 :: a1 :: some v :: r) H := Iff.rfl
theorem tV3 {a0 a1 a2 : Option V} {v : V} {r : L2.St} {H : Hp} {Q : VK} : tVar 3 (a0 :: a1 :: a2 :: some v :: r) H Q ↔ Q v H := ⟨fun ⟨_, e, h⟩ => by cases e; exact h, fun h => ⟨_, rfl, h⟩⟩
theorem gN3 {a0 a1 a2 : Option V} {v : V} {r : L2.St} {H : Hp} {o : Option V} {Q : L2.St → Hp → Prop} : gName 3 v (a0 :: a1 :: a2 :: o :: r) H Q ↔ Q (a0 :: a1 :: a2 :: some v :: r) H := Iff.rfl
theorem tV4 {a0 a1 a2 a3 : Option V} {v : V} {r : L2.St} {H : Hp} {Q : VK} : tVar 4 (a0 :: a1 :: a2 :: a3 :: some v :: r) H Q ↔ Q v H := ⟨fun ⟨_, e, h⟩ => by cases e; exact h, fun h => ⟨_, rfl, h⟩⟩
theorem gN4 {a0 a1 a2 a3 : Option V} {v : V} {r : L2.St} {H : Hp} {o : Option V} {Q : L2.St → Hp → Prop} : gName 4 v (a0 :: a1 :: a2 :: a3 :: o :: r) H Q ↔ Q (a0 :: a1 :: a2 :: a3 :: some v :: r) H := Iff.rfl
theorem tV5 {a0 a1 a2 a3 a4 : Option V} {v : V} {r : L2.St} {H : Hp} {Q : VK} : tVar 5 (a0 :: a1 :: a2 :: a3 :: a4 :: some v :: r) H Q ↔ Q v H := ⟨fun ⟨_, e, h⟩ => by cases e; exact h, fun h => ⟨_, rfl, h⟩⟩
theorem gN5 {a0 a1 a2 a3 a4 : Option V} {v : V} {r : L2.St} {H : Hp} {o : Option V} {Q : L2.St → Hp → Prop} : gName 5 v (a0 :: a1 :: a2 :: a3 :: a4 :: o :: r) H Q ↔ Q (a0 :: a1 :: a2 :: a3 :: a4 :: some v :: r) H := Iff.rfl
theorem tV6 {a0 a1 a2 a3 a4 a5 : Option V} {v : V} {r : L2.St} {H : Hp} {Q : VK} : tVar 6 (a0 :: a1 :: a2 :: a3 :: a4 :: a5 :: some v :: r) H Q ↔ Q v H := ⟨fun ⟨_, e, h⟩ => by cases e; exact h, fun h => ⟨_, rfl, h⟩⟩
theorem gN6 {a0 a1 a2 a3 a4 a5 : Option V} {v : V} {r : L2.St} {H : Hp} {o : Option V} {Q : L2.St → Hp → Prop} : gName 6 v (a0 :: a1 :: a2 :: a3 :: a4 :: a5 :: o :: r) H Q ↔ Q (a0 :: a1 :: a2 :: a3 :: a4 :: a5 :: some v :: r) H := Iff.rfl
theorem tV7 {a0 a1 a2 a3 a4 a5 a6 : Option V} {v : V} {r : L2.St} {H : Hp} {Q : VK} : tVar 7 (a0 :: a1 :: a2 :: a3 :: a4 :: a5 :: a6 :: some v :: r) H Q ↔ Q v H := ⟨fun ⟨_, e, h⟩ => by cases e; exact h, fun h => ⟨_, rfl, h⟩⟩
theorem gN7 {a0 a1 a2 a3 a4 a5 a6 : Option V} {v : V} {r : L2.St} {H : Hp} {o : Option V} {Q : L2.St → Hp → Prop} : gName 7 v (a0 :: a1 :: a2 :: a3 :: a4 :: a5 :: a6 :: o :: r) H Q ↔ Q (a0 :: a1 :: a2 :: a3 :: a4 :: a5 :: a6 :: some v :: r) H := Iff.rfl
theorem tV8 {a0 a1 a2 a3 a4 a5 a6 a7 : Option V} {v : V} {r : L2.St} {H : Hp} {Q : VK} : tVar 8 (a0 :: a1 :: a2 :: a3 :: a4 :: a5 :: a6 :: a7 :: some v :: r) H Q ↔ Q v H := ⟨fun ⟨_, e, h⟩ => by cases e; exact h, fun h => ⟨_, rfl, h⟩⟩
theorem gN8 {a0 a1 a2 a3 a4 a5 a6 a7 : Option V} {v : V} {r : L2.St} {H : Hp} {o : Option V} {Q : L2.St → Hp → Prop} : gName 8 v (a0 :: a1 :: a2 :: a3 :: a4 :: a5 :: a6 :: a7 :: o :: r) H Q ↔ Q (a0 :: a1 :: a2 :: a3 :: a4 :: a5 :: a6 :: a7 :: some v :: r) H := Iff.rfl
theorem tV9 {a0 a1 a2 a3 a4 a5 a6 a7 a8 : Option V} {v : V} {r : L2.St} {H : Hp} {Q : VK} : tVar 9 (a0 :: a1 :: a2 :: a3 :: a4 :: a5 :: a6 :: a7 :: a8 :: some v :: r) H Q ↔ Q v H := ⟨fun ⟨_, e, h⟩ => by cases e; exact h, fun h => ⟨_, rfl, h⟩⟩
theorem gN9 {a0 a1 a2 a3 a4 a5 a6 a7 a8 : Option V} {v : V} {r : L2.St} {H : Hp} {o : Option V} {Q : L2.St → Hp → Prop} : gName 9 v (a0 :: a1 :: a2 :: a3 :: a4 :: a5 :: a6 :: a7 :: a8 :: o :: r) H Q ↔ Q (a0 :: a1 :: a2 :: a3 :: a4 :: a5 :: a6 :: a7 :: a8 :: some v :: r) H := Iff.rfl
theorem tV10 {a0 a1 a2 a3 a4 a5 a6 a7 a8 a9 : Option V} {v : V} {r : L2.St} {H : Hp} {Q : VK} : tVar 10 (a0 :: a1 :: a2 :: a3 :: a4 :: a5 :: a6 :: a7 :: a8 :: a9 :: some v :: r) H Q ↔ Q v H := ⟨fun ⟨_, e, h⟩ => by cases e; exact h, fun h => ⟨_, rfl, h⟩⟩
theorem gN10 {a0 a1 a2 a3 a4 a5 a6 a7 a8 a9 : Option V} {v : V} {r : L2.St} {H : Hp} {o : Option V} {Q : L2.St → Hp → Prop} : gName 10 v (a0 :: a1 :: a2 :: a3 :: a4 :: a5 :: a6 :: a7 :: a8 :: a9 :: o :: r) H Q ↔ Q (a0 :: a1 :: a2 :: a3 :: a4 :: a5 :: a6 :: a7 :: a8 :: a9 :: some v :: r) H := Iff.rfl
theorem tV11 {a0 a1 a2 a3 a4 a5 a6 a7 a8 a9 a10 : Option V} {v : V} {r : L2.St} {H : Hp} {Q : VK} : tVar 11 (a0 :: a1 :: a2 :: a3 :: a4 :: a5 :: a6 :: a7 :: a8 :: a9 :: a10 :: some v :: r) H Q ↔ Q v H := ⟨fun ⟨_, e, h⟩ => by cases e; exact h, fun h => ⟨_, rfl, h⟩⟩
theorem gN11 {a0 a1 a2 a3 a4 a5 a6 a7 a8 a9 a10 : Option V} {v : V} {r : L2.St} {H : Hp} {o : Option V} {Q : L2.St → Hp → Prop} : gName 11 v (a0 :: a1 :: a2 :: a3 :: a4 :: a5 :: a6 :: a7 :: a8 :: a9 :: a10 :: o :: r) H Q ↔ Q (a0 :: a1 :: a2 :: a3 :: a4 :: a5 :: a6 :: a7 :: a8 :: a9 :: a10 :: some v :: r) H := Iff.rfl
theorem tV12 {a0 a1 a2 a3 a4 a5 a6 a7 a8 a9 a10 a11 : Option V} {v : V} {r : L2.St} {H : Hp} {Q : VK} : tVar 12 (a0 :: a1 :: a2 :: a3 :: a4 :: a5 :: a6 :: a7 :: a8 :: a9 :: a10 :: a11 :: some v :: r) H Q ↔ Q v H := ⟨fun ⟨_, e, h⟩ => by cases e; exact h, fun h => ⟨_, rfl, h⟩⟩
theorem gN12 {a0 a1 a2 a3 a4 a5 a6 a7 a8 a9 a10 a11 : Option V} {v : V} {r : L2.St} {H : Hp} {o : Option V} {Q : L2.St → Hp → Prop} : gName 12 v (a0 :: a1 :: a2 :: a3 :: a4 :: a5 :: a6 :: a7 :: a8 :: a9 :: a10 :: a11 :: o :: r) H Q ↔ Q (a0 :: a1 :: a2 :: a3 :: a4 :: a5 :: a6 :: a7 :: a8 :: a9 :: a10 :: a11 :: some v :: r) H := Iff.rfl
theorem tV13 {a0 a1 a2 a3 a4 a5 a6 a7 a8 a9 a10 a11 a12 : Option V} {v : V} {r : L2.St} {H : Hp} {Q : VK} : tVar 13 (a0 :: a1 :: a2 :: a3 :: a4 :: a5 :: a6 :: a7 :: a8 :: a9 :: a10 :: a11 :: a12 :: some v :: r) H Q ↔ Q v H := ⟨fun ⟨_, e, h⟩ => by cases e; exact h, fun h => ⟨_, rfl, h⟩⟩
theorem gN13 {a0 a1 a2 a3 a4 a5 a6 a7 a8 a9 a10 a11 a12 : Option V} {v : V} {r : L2.St} {H : Hp} {o : Option V} {Q : L2.St → Hp → Prop} : gName 13 v (a0 :: a1 :: a2 :: a3 :: a4 :: a5 :: a6 :: a7 :: a8 :: a9 :: a10 :: a11 :: a12 :: o :: r) H Q ↔ Q (a0 :: a1 :: a2 :: a3 :: a4 :: a5 :: a6 :: a7 :: a8 :: a9 :: a10 :: a11 :: a12 :: some v :: r) H := Iff.rfl
theorem w_Ret {te : TE} {D : Ends} {σ : L2.St} {H : Hp} : tRet te D σ H ↔ te σ H D.rt := Iff.rfl
theorem w_RetN {D : Ends} {σ : L2.St} {H : Hp} : tRetN D σ H ↔ D.rt .non H := Iff.rfl
theorem w_C {v : V} {σ : L2.St} {H : Hp} {Q : VK} : tC v σ H Q ↔ Q v H := Iff.rfl
theorem w_Op {r : R2} {ta tb : TE} {σ : L2.St} {H : Hp} {Q : VK} : tOp r ta tb σ H Q ↔ ta σ H fun x H1 => tb σ H1 fun y H2 => r x y H2 Q := Iff.rfl
theorem w_Un {r : V → Hp → VK → Prop} {ta : TE} {σ : L2.St} {H : Hp} {Q : VK} : tUn r ta σ H Q ↔ ta σ H fun x H1 => r x H1 Q := Iff.rfl
theorem w_UnI {g : Int → V} {i : Int} {H : Hp} {Q : VK} : rU g (.int i) H Q ↔ Q (g i) H := ⟨fun ⟨_, e, h⟩ => by cases e; exact h, fun h => ⟨_, rfl, h⟩⟩
theorem w_Asg {te : TE} {g : TG} {D : Ends} {σ : L2.St} {H : Hp} : tAsg te g D σ H ↔ te σ H fun x H1 => g x σ H1 D.nx := Iff.rfl
theorem w_Seq {t u : TS} {D : Ends} {σ : L2.St} {H : Hp} : tSeq t u D σ H ↔ t { D with nx := u D } σ H := Iff.rfl
theorem w_IfS {c : TT} {t u : TS} {D : Ends} {σ : L2.St} {H : Hp} : tIfS c t u D σ H ↔ c σ H fun b H1 => if b = true then t D σ H1 else u D σ H1 := Iff.rfl
theorem w_Next {D : Ends} {σ : L2.St} {H : Hp} : tNext D σ H ↔ D.nx σ H := Iff.rfl
theorem w_Drop {te : TE} {D : Ends} {σ : L2.St} {H : Hp} : tDrop te D σ H ↔ te σ H fun _ H1 => D.nx σ H1 := Iff.rfl
theorem w_CB {r : List V → Hp → VK → Prop} {t : TA} {σ : L2.St} {H : Hp} {Q : VK} : tCB r t σ H Q ↔ t σ H fun vs H1 => r vs H1 Q := Iff.rfl
theorem w_Call {sp : Sp} {E : XK} {t : TA} {σ : L2.St} {H : Hp} {Q : VK} : tCall sp [] E t σ H Q ↔ t σ H fun vs H1 => sp vs H1 Q E := by unfold tCall; simp only [List.append_nil]
theorem w_Nil {σ : L2.St} {H : Hp} {Q : List V → Hp → Prop} : tNil σ H Q ↔ Q [] H := Iff.rfl
theorem w_Cons {ta : TE} {tr : TA} {σ : L2.St} {H : Hp} {Q : List V → Hp → Prop} : tCons ta tr σ H Q ↔ ta σ H fun x H1 => tr σ H1 fun xs H2 => Q (x :: xs) H2 := Iff.rfl
theorem w_NoPart {σ : L2.St} {H : Hp} {Q : Option Int → Hp → Prop} : tNoPart σ H Q ↔ Q none H := Iff.rfl
theorem w_Part {te : TE} {σ : L2.St} {H : Hp} {Q : Option Int → Hp → Prop} : tPart te σ H Q ↔ te σ H fun x H1 => ∃ i, x = .int i ∧ Q (some i) H1 := Iff.rfl
theorem w_Sl {r : V → Option Int → Option Int → Hp → VK → Prop} {te : TE} {tl th : TO} {σ : L2.St} {H : Hp} {Q : VK} : L2.tSl r te tl th σ H Q ↔ te σ H fun x H1 => tl σ H1 fun l H2 => th σ H2 fun u H3 => r x l u H3 Q := Iff.rfl
theorem w_Test {te : TE} {σ : L2.St} {H : Hp} {Q : Bool → Hp → Prop} : tTest te σ H Q ↔ te σ H fun x H1 => ∃ k, x = .bl k ∧ Q k H1 := Iff.rfl
theorem w_And {t u : TT} {σ : L2.St} {H : Hp} {Q : Bool → Hp → Prop} : tAnd t u σ H Q ↔ t σ H fun c H1 => if c = true then u σ H1 Q else Q false H1 := Iff.rfl
theorem w_Or {t u : TT} {σ : L2.St} {H : Hp} {Q : Bool → Hp → Prop} : tOr t u σ H Q ↔ t σ H fun c H1 => if c = true then Q true H1 else u σ H1 Q := Iff.rfl
theorem w_Not {t : TT} {σ : L2.St} {H : Hp} {Q : Bool → Hp → Prop} : tNot t σ H Q ↔ t σ H fun c H1 => Q (!c) H1 := Iff.rfl
theorem w_AndV {ta tb : TE} {σ : L2.St} {H : Hp} {Q : VK} : tAndV ta tb σ H Q ↔ ta σ H fun x H1 => ∃ c, x = .bl c ∧ if c = true then tb σ H1 Q else Q (.bl false) H1 := Iff.rfl
theorem w_OrV {ta tb : TE} {σ : L2.St} {H : Hp} {Q : VK} : tOrV ta tb σ H Q ↔ ta σ H fun x H1 => ∃ c, x = .bl c ∧ if c = true then Q (.bl true) H1 else tb σ H1 Q := Iff.rfl
theorem w_NotV {ta : TE} {σ : L2.St} {H : Hp} {Q : VK} : tNotV ta σ H Q ↔ ta σ H fun x H1 => ∃ c, x = .bl c ∧ Q (.bl (!c)) H1 := Iff.rfl
theorem w_If {t : TT} {ta tb : TE} {σ : L2.St} {H : Hp} {Q : VK} : tIf t ta tb σ H Q ↔ t σ H fun c H1 => if c = true then ta σ H1 Q else tb σ H1 Q := Iff.rfl
theorem w_Chain {r r2 : R2} {ta tb tc : TE} {σ : L2.St} {H : Hp} {Q : VK} : tChain r r2 ta tb tc σ H Q ↔ ta σ H fun x H1 => tb σ H1 fun y H2 => r x y H2 fun z H3 => ∃ k, z = .bl k ∧ (if k = true then tc σ H3 fun w H4 => r2 y w H4 Q else Q (.bl false) H3) := Iff.rfl
theorem w_TruG {K : PySem.W.Frag} {ta : TE} {σ : L2.St} {H : Hp} {Q : Bool → Hp → Prop} : tTruG K ta σ H Q ↔ ta σ H fun x H1 => truR K x H1 Q := Iff.rfl
theorem w_TruB {K : PySem.W.Frag} {b : Bool} {H : Hp} {Q : Bool → Hp → Prop} : truR K (.bl b) H Q ↔ Q b H := Iff.rfl
theorem w_TruI {K : PySem.W.Frag} {i : Int} {H : Hp} {Q : Bool → Hp → Prop} : truR K (.int i) H Q ↔ Q (i != 0) H := Iff.rfl
theorem w_TruN {K : PySem.W.Frag} {H : Hp} {Q : Bool → Hp → Prop} : truR K .non H Q ↔ Q false H := Iff.rfl
theorem w_Tup {t : TA} {σ : L2.St} {H : Hp} {Q : VK} : tTup t σ H Q ↔ t σ H fun xs H1 => xs.length ≤ sizeLine ∧ ∀ p, H1 p = none → Q (.ref p) (upd H1 p (.tup xs)) := Iff.rfl
theorem w_Lst {t : TA} {σ : L2.St} {H : Hp} {Q : VK} : tLst t σ H Q ↔ t σ H fun xs H1 => xs.length ≤ sizeLine ∧ ∀ p, H1 p = none → Q (.ref p) (upd H1 p (.lst xs)) := Iff.rfl
theorem w_Par {i j : Nat} {a b : TE} {D : Ends} {σ : L2.St} {H : Hp} : tPar i j (tCons a (tCons b tNil)) D σ H ↔ a σ H fun x H1 => b σ H1 fun y H2 => gName i x σ H2 fun σ1 H3 => gName j y σ1 H3 D.nx := by
  have e : ∀ (x y : V) (P : V → V → Prop), (∃ v w, [x, y] = [v, w] ∧ P v w) ↔ P x y := fun x y P => ⟨fun ⟨_, _, e, h⟩ => by cases e; exact h, fun h => ⟨_, _, rfl, h⟩⟩
  simp only [tPar, tCons, tNil, gName, e]
theorem w_Sub {to ti : TE} {t : TSet} {v : V} {σ : L2.St} {H : Hp} {Q : L2.St → Hp → Prop} : gSub to ti t v σ H Q ↔ to σ H fun o H1 => ti σ H1 fun i H2 => t o i v H2 fun H3 => Q σ H3 := Iff.rfl
theorem w_M1 {r : V → List V → Hp → VK → Prop} {to te : TE} {σ : L2.St} {H : Hp} {Q : VK} : tM1 r to te σ H Q ↔ to σ H fun x H1 => (∃ a, x = .str a) ∧ te σ H1 fun y H2 => r x [y] H2 Q := Iff.rfl
theorem w_BM {K : PySem.W.Frag} {T : String} {r : V → List V → Hp → VK → Prop} {to : TE} {t : TA} {σ : L2.St} {H : Hp} {Q : VK} : tBM K T r to t σ H Q ↔ to σ H fun x H1 => tyV K T x H1 ∧ t σ H1 fun xs H2 => r x xs H2 Q := Iff.rfl
theorem w_ReplC {to : TE} {y z : Str} {σ : L2.St} {H : Hp} {Q : VK} : CwR.tReplC to y z σ H Q ↔ to σ H fun v H1 => ∃ x, v = .str x ∧ x.length + (x.length + 1) * z.length ≤ 16777216 ∧ Q (.str (Txt.replace x y z)) H1 := Iff.rfl
theorem w_RaiseC {C : Addr} {f : Str} {W : WX} {ta : TA} {D : Ends} {σ : L2.St} {H : Hp} : tRaiseC C f W ta D σ H ↔ ta σ H fun vs H1 => rMk C f vs H1 fun cls d H2 => W cls d σ H2 := Iff.rfl
theorem w_Fmt02 {te : TE} {σ : L2.St} {H : Hp} {Q : VK} : tFmt02 te σ H Q ↔ te σ H fun x H1 => ∃ i : Nat, x = .int (i : Int) ∧ i < 100 ∧ Q (.str (S (dig2 i))) H1 := Iff.rfl
theorem w_FmtG {te : TE} {σ : L2.St} {H : Hp} {Q : VK} : tFmtG te σ H Q ↔ te σ H fun x H1 => fmtR x H1 Q := Iff.rfl
theorem w_FmtS {y : Str} {H : Hp} {Q : VK} : fmtR (.str y) H Q ↔ y.length ≤ sizeLine ∧ Q (.str y) H := Iff.rfl
theorem w_FmtI {i : Int} {H : Hp} {Q : VK} : fmtR (.int i) H Q ↔ i.natAbs.log2 < 1920 ∧ Q (.str (Str.ofString (toString i))) H := Iff.rfl
theorem o_AddII {K : PySem.W.Frag} {i j : Int} {H : Hp} {Q : VK} : rAddG K (.int i) (.int j) H Q ↔ Q (.int (i + j)) H := Iff.rfl
theorem o_AddSS {K : PySem.W.Frag} {a b : Str} {H : Hp} {Q : VK} : rAddG K (.str a) (.str b) H Q ↔ a.length + b.length ≤ sizeLine ∧ Q (.str (a ++ b)) H := Iff.rfl
theorem o_AddRR {K : PySem.W.Frag} {p q : Addr} {H : Hp} {Q : VK} : rAddG K (.ref p) (.ref q) H Q ↔ (∃ xs ys, H p = some (.lst xs) ∧ H q = some (.lst ys) ∧ xs.length + ys.length ≤ sizeLine ∧ ∀ r, H r = none → Q (.ref r) (upd H r (.lst (xs ++ ys)))) ∨ rCatA K (.ref p) (.ref q) H Q := Iff.rfl
theorem o_SubII {i j : Int} {H : Hp} {Q : VK} : rSubG (.int i) (.int j) H Q ↔ Q (.int (i - j)) H := Iff.rfl
theorem o_MulII {i j : Int} {H : Hp} {Q : VK} : rMulG (.int i) (.int j) H Q ↔ (CMul i j ∨ CMulW i j) ∧ Q (.int (i * j)) H := Iff.rfl
theorem o_MulSI {a : Str} {n : Int} {H : Hp} {Q : VK} : rMulG (.str a) (.int n) H Q ↔ MulOk a n ∧ Q (.str (Txt.mul a n)) H := Iff.rfl
theorem o_ModII {i j : Int} {H : Hp} {Q : VK} : rModG (.int i) (.int j) H Q ↔ 0 < j ∧ Q (.int (i % j)) H := Iff.rfl
theorem o_DivII {i j : Int} {H : Hp} {Q : VK} : rDivG (.int i) (.int j) H Q ↔ CDivW i j ∧ Q (.int (i / j)) H := Iff.rfl
theorem o_PowII {i j : Int} {H : Hp} {Q : VK} : rPowG (.int i) (.int j) H Q ↔ CPow i j ∧ Q (.int (i ^ j.toNat)) H := Iff.rfl
theorem o_LtII {i j : Int} {H : Hp} {Q : VK} : rLtG (.int i) (.int j) H Q ↔ Q (.bl (decide (i < j))) H := Iff.rfl
theorem o_LtSS {a b : Str} {H : Hp} {Q : VK} : rLtG (.str a) (.str b) H Q ↔ Q (.bl (decide (tl a < tl b))) H := Iff.rfl
theorem o_LeII {i j : Int} {H : Hp} {Q : VK} : rLeG (.int i) (.int j) H Q ↔ Q (.bl (decide (i ≤ j))) H := Iff.rfl
theorem o_LeSS {a b : Str} {H : Hp} {Q : VK} : rLeG (.str a) (.str b) H Q ↔ Q (.bl (!decide (tl b < tl a))) H := Iff.rfl
theorem o_GtII {i j : Int} {H : Hp} {Q : VK} : rGtG (.int i) (.int j) H Q ↔ Q (.bl (decide (j < i))) H := Iff.rfl
theorem o_GtSS {a b : Str} {H : Hp} {Q : VK} : rGtG (.str a) (.str b) H Q ↔ Q (.bl (decide (tl b < tl a))) H := Iff.rfl
theorem o_GeII {i j : Int} {H : Hp} {Q : VK} : rGeG (.int i) (.int j) H Q ↔ Q (.bl (decide (j ≤ i))) H := Iff.rfl
theorem o_GeSS {a b : Str} {H : Hp} {Q : VK} : rGeG (.str a) (.str b) H Q ↔ Q (.bl (!decide (tl a < tl b))) H := Iff.rfl
theorem o_EqII {K : PySem.W.Frag} {i j : Int} {H : Hp} {Q : VK} : rEqG K (.int i) (.int j) H Q ↔ Q (.bl (decide (i = j))) H := Iff.rfl
theorem o_EqSS {K : PySem.W.Frag} {a b : Str} {H : Hp} {Q : VK} : rEqG K (.str a) (.str b) H Q ↔ Q (.bl (decide (tl a = tl b))) H := Iff.rfl
theorem o_EqBB {K : PySem.W.Frag} {a b : Bool} {H : Hp} {Q : VK} : rEqG K (.bl a) (.bl b) H Q ↔ Q (.bl (decide (a = b))) H := Iff.rfl
theorem o_EqRR {K : PySem.W.Frag} {a b : Addr} {H : Hp} {Q : VK} : rEqG K (.ref a) (.ref b) H Q ↔ rEqD K (.ref a) (.ref b) H Q := Iff.rfl
theorem o_NeII {K : PySem.W.Frag} {i j : Int} {H : Hp} {Q : VK} : rNeG K (.int i) (.int j) H Q ↔ Q (.bl (!decide (i = j))) H := Iff.rfl
theorem o_NeSS {K : PySem.W.Frag} {a b : Str} {H : Hp} {Q : VK} : rNeG K (.str a) (.str b) H Q ↔ Q (.bl (!decide (tl a = tl b))) H := Iff.rfl
theorem o_NeBB {K : PySem.W.Frag} {a b : Bool} {H : Hp} {Q : VK} : rNeG K (.bl a) (.bl b) H Q ↔ Q (.bl (!decide (a = b))) H := Iff.rfl
theorem o_NeRR {K : PySem.W.Frag} {a b : Addr} {H : Hp} {Q : VK} : rNeG K (.ref a) (.ref b) H Q ↔ rNeD K (.ref a) (.ref b) H Q := Iff.rfl
theorem o_InR {K : PySem.W.Frag} {x : V} {p : Addr} {neg : Bool} {H : Hp} {Q : VK} : rInG K neg x (.ref p) H Q ↔ ∃ xs, (SqL K H p xs ∨ SqT K H p xs) ∧ flatV x = true ∧ xs.all flatV = true ∧ Q (.bl (if neg then !inV x xs else inV x xs)) H := Iff.rfl
theorem o_InS {K : PySem.W.Frag} {c : Nat} {z : Str} {neg : Bool} {H : Hp} {Q : VK} : rInG K neg (.str ⟨#[c]⟩) (.str z) H Q ↔ Q (.bl (if neg then !decide (c ∈ tl z) else decide (c ∈ tl z))) H := ⟨fun ⟨_, e, h⟩ => by cases e; exact h, fun h => ⟨_, rfl, h⟩⟩
theorem o_IxS {K : PySem.W.Frag} {z : Str} {i : Int} {H : Hp} {Q : VK} : rIxG K (.str z) (.int i) H Q ↔ z.length ≤ sizeLine ∧ ∃ c, atI (tl z) i = some c ∧ Q (.str (S [c])) H := Iff.rfl
theorem o_IxR {K : PySem.W.Frag} {p : Addr} {i : Int} {H : Hp} {Q : VK} : rIxG K (.ref p) (.int i) H Q ↔ ∃ xs v, (SqL K H p xs ∨ SqT K H p xs) ∧ atI xs i = some v ∧ Q v H := Iff.rfl
theorem o_SlS {K : PySem.W.Frag} {z : Str} {lo hi : Option Int} {H : Hp} {Q : VK} : rSlG K (.str z) lo hi H Q ↔ z.length ≤ sizeLine ∧ Q (.str (cutS z lo hi)) H := Iff.rfl
theorem o_SlR {K : PySem.W.Frag} {a : Addr} {lo hi : Option Int} {H : Hp} {Q : VK} : rSlG K (.ref a) lo hi H Q ↔ (∃ xs, SqL K H a xs ∧ ∀ p, H p = none → Q (.ref p) (upd H p (.lst (cutV xs lo hi)))) ∨ rSlT K (.ref a) lo hi H Q := Iff.rfl
theorem o_LenS {K : PySem.W.Frag} {z : Str} {H : Hp} {Q : VK} : rLenG K [.str z] H Q ↔ z.length ≤ sizeLine ∧ Q (.int z.length) H := Iff.rfl
theorem o_LenR {K : PySem.W.Frag} {p : Addr} {H : Hp} {Q : VK} : rLenG K [.ref p] H Q ↔ ∃ ys, (SqL K H p ys ∨ SqT K H p ys) ∧ Q (.int ys.length) H := Iff.rfl
theorem o_IntI {i : Int} {H : Hp} {Q : VK} : rIntG [.int i] H Q ↔ Q (.int i) H := Iff.rfl
theorem o_IntB {b : Bool} {H : Hp} {Q : VK} : rIntG [.bl b] H Q ↔ Q (.int (if b then 1 else 0)) H := Iff.rfl
theorem o_IntS {a : Str} {H : Hp} {Q : VK} : rIntG [.str a] H Q ↔ ∃ n, PySem.intText? a = some n ∧ a.length ≤ 640 ∧ Q (.int n) H := Iff.rfl
theorem o_Abs {i : Int} {H : Hp} {Q : VK} : rAbsG [.int i] H Q ↔ Q (.int (if i < 0 then -i else i)) H := Iff.rfl
theorem o_Max {i j : Int} {H : Hp} {Q : VK} : rMaxG [.int i, .int j] H Q ↔ Q (.int (if j > i then j else i)) H := Iff.rfl
theorem o_Min {i j : Int} {H : Hp} {Q : VK} : rMinG [.int i, .int j] H Q ↔ Q (.int (if j < i then j else i)) H := Iff.rfl
theorem o_Str {i : Int} {H : Hp} {Q : VK} : rStrG [.int i] H Q ↔ i.natAbs.log2 < 1920 ∧ Q (.str (Str.ofString (toString i))) H := Iff.rfl
theorem o_Divmod {i j : Int} {H : Hp} {Q : VK} : rDivmodG [.int i, .int j] H Q ↔ CDiv i j ∧ ∀ p, H p = none → Q (.ref p) (upd H p (.tup [.int (i / j), .int (i % j)])) := Iff.rfl
theorem x_Bl {a : Bool} {P : Bool → Prop} : (∃ k, V.bl a = V.bl k ∧ P k) ↔ P a := ⟨fun ⟨_, e, h⟩ => by cases e; exact h, fun h => ⟨_, rfl, h⟩⟩
theorem x_Int {a : Int} {P : Int → Prop} : (∃ k, V.int a = V.int k ∧ P k) ↔ P a := ⟨fun ⟨_, e, h⟩ => by cases e; exact h, fun h => ⟨_, rfl, h⟩⟩
theorem x_Str {a : Str} {P : Str → Prop} : (∃ k, V.str a = V.str k ∧ P k) ↔ P a := ⟨fun ⟨_, e, h⟩ => by cases e; exact h, fun h => ⟨_, rfl, h⟩⟩
theorem x_Ref {a : Addr} {P : Addr → Prop} : (∃ k, V.ref a = V.ref k ∧ P k) ↔ P a := ⟨fun ⟨_, e, h⟩ => by cases e; exact h, fun h => ⟨_, rfl, h⟩⟩
theorem x_StrT {a : Str} : (∃ k, V.str a = V.str k) ↔ True := ⟨fun _ => trivial, fun _ => ⟨_, rfl⟩⟩
theorem w_For {wi : TI} {g : TG} {tb : TS} {D : Ends} {σ : L2.St} {H : Hp} : tFor wi g tb D σ H ↔ wi σ H fun J H1 => Loop J g tb D σ H1 := Iff.rfl
theorem w_Lc {wi : TI} {g : TG} {tt : TT} {te : TE} {vs : List Nat} {σ : L2.St} {H : Hp} {Q : VK} : tLc wi g tt te vs σ H Q ↔ wi σ H fun J H1 => ∀ D, H1 D = none → LoopC J g tt te vs σ H1 D (Q (.ref D)) := Iff.rfl
theorem w_iEnum {K : PySem.W.Frag} {ta : TA} {σ : L2.St} {H : Hp} {R : It → Hp → Prop} : iEnum K ta σ H R ↔ ta σ H fun vs H1 => ∃ a xs, vs = [.ref a] ∧ SqL K H1 a xs ∧ R (Ite K a) H1 := Iff.rfl
theorem w_iZipG {K : PySem.W.Frag} {k1 k2 : Bool} {ta : TA} {σ : L2.St} {H : Hp} {R : It → Hp → Prop} : iZipG K k1 k2 ta σ H R ↔ ta σ H fun vs H1 => ∃ a b xs ys, vs = [.ref a, .ref b] ∧ SqB K k1 H1 a xs ∧ SqB K k2 H1 b ys ∧ R (ItzG K k1 k2 a b) H1 := Iff.rfl
theorem w_iList {K : PySem.W.Frag} {te : TE} {σ : L2.St} {H : Hp} {R : It → Hp → Prop} : iList K te σ H R ↔ te σ H fun x H1 => ∃ a, x = .ref a ∧ (∃ xs, SqL K H1 a xs) ∧ R (Itl K a) H1 := Iff.rfl
theorem w_iTup {K : PySem.W.Frag} {te : TE} {σ : L2.St} {H : Hp} {R : It → Hp → Prop} : iTup K te σ H R ↔ te σ H fun x H1 => ∃ a, x = .ref a ∧ (∃ xs, SqT K H1 a xs) ∧ R (Itt K a) H1 := Iff.rfl
theorem w_iStr {te : TE} {σ : L2.St} {H : Hp} {R : It → Hp → Prop} : iStr te σ H R ↔ te σ H fun v H1 => ∃ x, v = .str x ∧ R (Its x) H1 := Iff.rfl
theorem w_iR1 {te : TE} {σ : L2.St} {H : Hp} {R : It → Hp → Prop} : iRng1 (tCons te tNil) σ H R ↔ te σ H fun v H1 => ∃ j, v = .int j ∧ -(2 ^ 62) ≤ j ∧ j < 2 ^ 62 ∧ R (Itr 0 j.toNat) H1 := by
  unfold iRng1 tCons tNil
  simp only [List.cons.injEq, and_true]
theorem w_iR2 {ta tb : TE} {σ : L2.St} {H : Hp} {R : It → Hp → Prop} : iRng2 (tCons ta (tCons tb tNil)) σ H R ↔ ta σ H fun v H1 => tb σ H1 fun u H2 => iR2 v u H2 R := Iff.rfl
end G
namespace G
open PySem PySem.Spec PyProof.Rows L2
section
variable {X : Cx} {k : Nat} {ps : List Str} {sp : Sp} {x : Str} {e : Expr} {es : List Expr} {t : TA} {p pos : Pos} {E : L2.St → XK}
/-- a call in the body of a try -/
theorem pe_cS (C : CallOk X.prog X.w X.K X.mg X.base x k ps sp) (hr : Room k X.A) (hx : ∀ σ, PassesAt (L2.CX X.prog X.w) X σ (E σ)) (ha : PA X (e :: es) t) (hg : Gl X x := by rfl)
    (hdb : (x == ("__debug__" : Str)) = false := by decide) (he : starEach (e :: es) X.env = (false, eval e X.env) :: starEach es X.env := by rfl) (hpl : (backTo pos (starEach es X.env)).any (·.1) = false := by rfl) :
    PE X (.Call (.Name x p) (e :: es) [] pos) (tCallS sp E t) := by
  obtain ⟨f, fd, hm, hk, hb, F⟩ := C.ex
  exact pe_callS F hr hg hm hk hb hx ha hdb he hpl
end
theorem w_CallS {sp : Sp} {E : L2.St → XK} {t : TA} {σ : L2.St} {H : Hp} {Q : VK} : tCallS sp E t σ H Q ↔ t σ H fun vs H1 => sp vs H1 Q (E σ) := Iff.rfl
theorem w_Xf {a : Addr} {cls : Value} {d : Option Addr} {C : Addr} {f : Str} {te : TE} {σ : L2.St} {H : Hp} {Q : VK} : tXf a cls d C f te σ H Q ↔
    te σ H fun x H1 => x = .ref a ∧ cls = .ref C ∧ ∃ (dd : Addr) (fs : List (Str × V)) (v : V), d = some dd ∧ H1 dd = some (.xd fs) ∧ fs.lookup f = some v ∧ Q v H1 := Iff.rfl
end G
namespace K00
open PySem PySem.Spec PyProof.Rows L2 G
def topS (i : Nat) : Stmt := PySem.Challenge.pw_toldstarts_k00_texts_of_ticks.main.body.getD i (.Pass ⟨0, 0, 0, 0⟩)
abbrev s_is_between : Stmt := topS 1
theorem sc_is_between : FnScope ["value", "low", "high"] ["value", "low", "high"] (defScope s_is_between) := ⟨rfl, rfl, rfl, by decide +kernel, rfl, by decide +kernel, by decide +kernel⟩
abbrev s_is_digit : Stmt := topS 2
theorem sc_is_digit : FnScope ["sign"] ["sign"] (defScope s_is_digit) := ⟨rfl, rfl, rfl, by decide +kernel, rfl, by decide +kernel, by decide +kernel⟩
abbrev s_digits_end : Stmt := topS 3
theorem sc_digits_end : FnScope ["text", "begin", "most", "end"] ["text", "begin", "most"] (defScope s_digits_end) := ⟨rfl, rfl, rfl, by decide +kernel, rfl, by decide +kernel, by decide +kernel⟩
abbrev s_is_tick : Stmt := topS 15
theorem sc_is_tick : FnScope ["value"] ["value"] (defScope s_is_tick) := ⟨rfl, rfl, rfl, by decide +kernel, rfl, by decide +kernel, by decide +kernel⟩
abbrev s_check_tick : Stmt := topS 16
theorem sc_check_tick : FnScope ["value"] ["value"] (defScope s_check_tick) := ⟨rfl, rfl, rfl, by decide +kernel, rfl, by decide +kernel, by decide +kernel⟩
abbrev s_text_of_ticks : Stmt := topS 17
theorem sc_text_of_ticks : FnScope ["number", "days", "rest", "hours", "minutes", "seconds", "clock"] ["number"] (defScope s_text_of_ticks) := ⟨rfl, rfl, rfl, by decide +kernel, rfl, by decide +kernel, by decide +kernel⟩
abbrev s_ticks_of : Stmt := topS 18
theorem sc_ticks_of : FnScope ["text", "numbers", "has_days", "place", "begin", "number", "worths", "total", "worth", "_"] ["text"] (defScope s_ticks_of) := ⟨rfl, rfl, rfl, by decide +kernel, rfl, by decide +kernel, by decide +kernel⟩
abbrev s__read_numbers : Stmt := topS 19
theorem sc__read_numbers : FnScope ["text", "end", "numbers", "has_days", "most", "joint", "begin"] ["text"] (defScope s__read_numbers) := ⟨rfl, rfl, rfl, by decide +kernel, rfl, by decide +kernel, by decide +kernel⟩
abbrev s__number_end : Stmt := topS 20
theorem sc__number_end : FnScope ["text", "begin", "most", "end"] ["text", "begin", "most"] (defScope s__number_end) := ⟨rfl, rfl, rfl, by decide +kernel, rfl, by decide +kernel, by decide +kernel⟩
abbrev s__worths : Stmt := topS 21
theorem sc__worths : FnScope ["many", "has_days"] ["many", "has_days"] (defScope s__worths) := ⟨rfl, rfl, rfl, by decide +kernel, rfl, by decide +kernel, by decide +kernel⟩
abbrev s__law_dice : Stmt := topS 23
theorem sc__law_dice : FnScope ["script", "spot", "cell", "left"] ["script", "spot"] (defScope s__law_dice) := ⟨rfl, rfl, rfl, by decide +kernel, rfl, by decide +kernel, by decide +kernel⟩
abbrev s__law_roll : Stmt := topS 24
theorem sc__law_roll : FnScope ["dice", "total", "found", "one", "two"] ["dice", "total"] (defScope s__law_roll) := ⟨rfl, rfl, rfl, by decide +kernel, rfl, by decide +kernel, by decide +kernel⟩
abbrev s__law_pick : Stmt := topS 25
theorem sc__law_pick : FnScope ["dice", "items"] ["dice", "items"] (defScope s__law_pick) := ⟨rfl, rfl, rfl, by decide +kernel, rfl, by decide +kernel, by decide +kernel⟩
abbrev s__law_digits : Stmt := topS 26
theorem sc__law_digits : FnScope ["number", "wide"] ["number", "wide"] (defScope s__law_digits) := ⟨rfl, rfl, rfl, by decide +kernel, rfl, by decide +kernel, by decide +kernel⟩
abbrev s__law_written : Stmt := topS 27
theorem sc__law_written : FnScope ["number", "days", "rest", "text"] ["number"] (defScope s__law_written) := ⟨rfl, rfl, rfl, by decide +kernel, rfl, by decide +kernel, by decide +kernel⟩
abbrev s__law_parts : Stmt := topS 28
theorem sc__law_parts : FnScope ["text", "sign"] ["text"] (defScope s__law_parts) := ⟨rfl, rfl, rfl, by decide +kernel, rfl, by decide +kernel, by decide +kernel⟩
abbrev s__law_goes_on : Stmt := topS 29
theorem sc__law_goes_on : FnScope ["text", "parts", "signs", "long", "at", "part"] ["text"] (defScope s__law_goes_on) := ⟨rfl, rfl, rfl, by decide +kernel, rfl, by decide +kernel, by decide +kernel⟩
abbrev s__law_due : Stmt := topS 30
theorem sc__law_due : FnScope ["text", "at", "parts", "signs", "spot", "units", "total", "unit", "part"] ["text"] (defScope s__law_due) := ⟨rfl, rfl, rfl, by decide +kernel, rfl, by decide +kernel, by decide +kernel⟩
abbrev s__law_told : Stmt := topS 31
theorem sc__law_told : FnScope ["text", "e"] ["text"] (defScope s__law_told) := ⟨rfl, rfl, rfl, by decide +kernel, rfl, by decide +kernel, by decide +kernel⟩
abbrev s__law_drawn : Stmt := topS 32
theorem sc__law_drawn : FnScope ["dice", "signs", "first", "text", "sign"] ["dice"] (defScope s__law_drawn) := ⟨rfl, rfl, rfl, by decide +kernel, rfl, by decide +kernel, by decide +kernel⟩
abbrev s__law_spoilt : Stmt := topS 33
theorem sc__law_spoilt : FnScope ["dice", "text", "at", "way", "sign"] ["dice", "text"] (defScope s__law_spoilt) := ⟨rfl, rfl, rfl, by decide +kernel, rfl, by decide +kernel, by decide +kernel⟩
abbrev s__law_right : Stmt := topS 34
theorem sc__law_right : FnScope ["dice", "some", "number", "turn", "text", "lap"] ["dice"] (defScope s__law_right) := ⟨rfl, rfl, rfl, by decide +kernel, rfl, by decide +kernel, by decide +kernel⟩
abbrev s_law : Stmt := topS 35
theorem sc_law : FnScope ["script", "spot", "dice", "texts", "told", "text", "due"] ["script"] (defScope s_law) := ⟨rfl, rfl, rfl, by decide +kernel, rfl, by decide +kernel, by decide +kernel⟩
abbrev s_ParseError___init__ : Stmt := inClass (topS 7) 0
theorem sc_ParseError___init__ : FnScope ["self", "spot"] ["self", "spot"] (defScope s_ParseError___init__) := ⟨rfl, rfl, rfl, by decide +kernel, rfl, by decide +kernel, by decide +kernel⟩

structure Txt (K : PySem.W.Frag) (mg : Str → Option Value) : Prop where
  g_DAY : ∃ t, mg "DAY" = some (.int 86400 t)
  g_HOUR : ∃ t, mg "HOUR" = some (.int 3600 t)
  g_MAX_FIRST_DIGITS : ∃ t, mg "MAX_FIRST_DIGITS" = some (.int 7 t)
  g_MAX_LATER_DIGITS : ∃ t, mg "MAX_LATER_DIGITS" = some (.int 2 t)
  g_MAX_TICK : ∃ t, mg "MAX_TICK" = some (.int 1000000 t)
  g_MINUTE : ∃ t, mg "MINUTE" = some (.int 60 t)
  n_abs : mg "abs" = none
  n_bool : mg "bool" = none
  n_divmod : mg "divmod" = none
  n_enumerate : mg "enumerate" = none
  n_int : mg "int" = none
  n_isinstance : mg "isinstance" = none
  n_len : mg "len" = none
  n_max : mg "max" = none
  n_min : mg "min" = none
  n_range : mg "range" = none
  n_str : mg "str" = none
  n_sum : mg "sum" = none
  n_zip : mg "zip" = none
  nd : PySem.W.nsIn K cStatics "sys.int_max_str_digits" = some none
theorem lit_colon : Str.ofString ":" = S [58] := by decide +kernel
theorem lit_dash : Str.ofString "-" = S [45] := by decide +kernel
theorem lit_e : Str.ofString "" = S [] := by decide +kernel
end K00
namespace K00
open PySem PySem.Spec PyProof.Rows L2 G
local macro_rules | `(tactic| walk_at "wp") => `(tactic| simp only [cx_K, tM1, CwR.tReplC, rNewStrs, gSub, tFor_L, tLc_L, iEnum, iZipG, iList, iTup, iStr, iRng1, iRng2, wipe, tYes, tRet, tChain, tC, tVar, tOp, tAsg, tSeq, tIfS, tNext, tDrop, tCB, tCall, tCons, tNil, tPart, tNoPart, tSl, tTest, tAnd, tOr, tNot, tTruG, tAndV, tOrV, tNotV, tIf, tUn, rU, gName, gCons_c, gNil_c, S_cat, S_nil, len_S, List.length_append, dig2_len, toS_nat, lit_colon, lit_dash, lit_e, tTup, tLst, tPar, tRaiseC, rAddG, rSubG, rModG, rDivG, rPowG, rLtG, rLeG, rGtG, rGeG, rIxG, rSlG, rLenG, rIntG, rAbsG, rMaxG, rMinG, rStrG, rDivmodG, rMulG, rEqG, rNeG, rInG, L2.start, List.length_cons, List.length_nil, List.map_cons, List.map_nil, List.replicate, List.cons_append, List.nil_append, List.append_nil, List.getElem?_cons_zero, List.getElem?_cons_succ, Option.some.injEq, exists_eq_left', exists_eq_left, exists_eq', V.int.injEq, V.bl.injEq, V.str.injEq, V.ref.injEq, List.cons.injEq, List.set_cons_zero, List.set_cons_succ, Nat.sub_self, Nat.add_sub_cancel, Nat.zero_add, Nat.reduceSub, Nat.reduceAdd, Bool.false_eq_true, reduceIte, exN_iff, dec1, and_true, true_and, isi_ii, isi_ib, isi_ss, Bool.not_true, Bool.not_false, tNever, tFmt02, tFmtG, tJs, List.nil_append, Int.natAbs_natCast])
section
variable {P : Program} {w : World} {K : PySem.W.Frag} {mg : Str → Option Value} {base : Heap} {C_ParseError : Addr}

/-! digits -/
def isDL (l : List Nat) : Bool := !decide (l < [48]) && !decide ([57] < l)
def isD (c : Nat) : Bool := decide (48 ≤ c) && decide (c ≤ 57)
theorem lit_0 : tl (Str.ofString "0") = [48] := by decide +kernel
theorem lit_9 : tl (Str.ofString "9") = [57] := by decide +kernel
theorem isDL_nil : isDL [] = false := by decide
theorem isDL_one (c : Nat) : isDL [c] = isD c := by
  unfold isDL isD
  have e1 : ([c] < [48]) = (c < 48) := by rw [List.cons_lt_cons_iff]; simp
  have e2 : ([57] < [c]) = (57 < c) := by rw [List.cons_lt_cons_iff]; simp
  simp only [e1, e2]
  by_cases h1 : c < 48
  · simp [h1, show ¬ 48 ≤ c by omega]
  · by_cases h2 : 57 < c
    · simp [h2, show ¬ c ≤ 57 by omega]
    · simp [h1, h2, show 48 ≤ c by omega, show c ≤ 57 by omega]
def dAt (t : List Nat) (i : Nat) : Bool := match t[i]? with | some c => isD c | none => false
theorem isDL_at (t : List Nat) (i : Nat) : isDL ((t.drop i).take 1) = dAt t i := by
  unfold dAt
  cases h : t[i]? with
  | none => rw [List.drop_eq_nil_of_le (List.getElem?_eq_none_iff.mp h)]; exact isDL_nil
  | some c =>
    obtain ⟨hi, e⟩ := List.getElem?_eq_some_iff.mp h
    rw [List.drop_eq_getElem_cons hi, e]
    exact isDL_one c
/-- how many digits begin at b, at most m -/
def dCnt (t : List Nat) (b : Nat) : Nat → Nat
  | 0 => 0
  | m + 1 => if dAt t b = true then dCnt t (b + 1) m + 1 else 0
theorem dCnt_le (t : List Nat) : ∀ m b, dCnt t b m ≤ m
  | 0, _ => Nat.le_refl _
  | m + 1, b => by
    unfold dCnt
    split
    · have := dCnt_le t m (b + 1); omega
    · omega
/-- the k-th digit is there exactly if k is less than the count -/
theorem dCnt_step (t : List Nat) : ∀ m b k, k ≤ dCnt t b m → (decide (k < m) && dAt t (b + k)) = decide (k < dCnt t b m)
  | 0, b, k, h => by simp [dCnt] at h ⊢
  | m + 1, b, k, h => by
    by_cases hd : dAt t b = true
    · have e : dCnt t b (m + 1) = dCnt t (b + 1) m + 1 := by rw [dCnt, if_pos hd]
      rw [e] at h ⊢
      cases k with
      | zero => simp [hd]
      | succ k =>
        have ih := dCnt_step t m (b + 1) k (by omega)
        rw [show b + (k + 1) = b + 1 + k by omega]
        have e2 : decide (k + 1 < m + 1) = decide (k < m) := by simp
        have e3 : decide (k + 1 < dCnt t (b + 1) m + 1) = decide (k < dCnt t (b + 1) m) := by simp
        rw [e2, e3]
        exact ih
    · have e : dCnt t b (m + 1) = 0 := by rw [dCnt, if_neg hd]
      rw [e] at h ⊢
      have : k = 0 := by omega
      subst this
      simp [hd]
def dEnd (t : List Nat) (b m : Nat) : Nat := b + dCnt t b m
def sp_is_digit : Sp := fun vs H Q _ => match vs with
  | [.str x] => Q (.bl (isDL (tl x))) H
  | _ => False
theorem c_is_digit {f : Addr} {fd : FuncData} (T : Txt K mg) (F : Fun K "is_digit" "is_digit" s_is_digit f fd) (hm : mg "is_digit" = some (.ref f))  : CallOk P w K mg base "is_digit" 1 ["sign"] sp_is_digit := by
  refine ⟨f, fd, hm, F.kp, F.binds (ps := ["sign"]) (fun _ _ _ _ _ _ us hl => match us, hl with | [_], _ => rfl), F.okX sc_is_digit (fun vs H Q E h => ?_) (fun cdv A outer s H vs Q E hr h => ⟨_, (pss_one (ps_ret (pe_chain op_leG op_leG pe_str (pv 0) pe_str))), ?_⟩)⟩
  · revert h
    unfold sp_is_digit
    split <;> intro h <;> first | rfl | exact False.elim h
  · unfold sp_is_digit at h
    split at h
    · walk_at "wp"
      rename_i x
      rw [lit_0, lit_9]
      unfold isDL at h
      cases e : decide (tl x < [48]) <;> rw [e] at h <;> simpa using h
    · exact h.elim
def sp_digits_end : Sp := fun vs H Q _ => match vs with
  | [.str x, .int b, .int m] => ∃ b' m' : Nat, b = (b' : Int) ∧ m = (m' : Int) ∧ x.length ≤ 1000 ∧ Q (.int (dEnd (tl x) b' m' : Nat)) H
  | _ => False
theorem c_digits_end {f : Addr} {fd : FuncData} (T : Txt K mg) (F : Fun K "digits_end" "digits_end" s_digits_end f fd) (hm : mg "digits_end" = some (.ref f)) (C_is_digit : CallOk P w K mg base "is_digit" 1 ["sign"] sp_is_digit) : CallOk P w K mg base "digits_end" 2 ["text", "begin", "most"] sp_digits_end := by
  refine ⟨f, fd, hm, F.kp, F.binds (ps := ["text", "begin", "most"]) (fun _ _ _ _ _ _ us hl => match us, hl with | [_, _, _], _ => rfl), F.okX sc_digits_end (fun vs H Q E h => ?_) (fun cdv A outer s H vs Q E hr h => ⟨_, (pss_cons (ps_set (i := 3) sc_digits_end.nd rfl (Or.inl rfl) (pv 1))
      (pss_cons (ps_while (passes_of rfl) (PW.pt (pw_and (pt_cmpR op_ltG (pe_op op_subG (pv 3) (pv 1)) (pv 2) (nomark _)) (pw_and1 (pt_truG (pe_c0 C_is_digit (hr.mono (by decide)) (pa_cons (pe_slice sl_G (pv 0) (po_some (pv 3)) (po_some (pe_op op_addG (pv 3) pe_int))) pa_nil)))))) (pss_one (ps_set (i := 3) sc_digits_end.nd rfl (Or.inl rfl) (pe_op op_addG (pv 3) pe_int))))
      (pss_one (ps_ret (pv 3))))), ?_⟩)⟩
  · revert h
    unfold sp_digits_end
    split <;> intro h <;> first | rfl | exact False.elim h
  · unfold sp_digits_end at h
    split at h
    · walk_at "wp"
      rename_i x b m
      obtain ⟨b', m', rfl, rfl, hx, q⟩ := h
      refine whm (fun m σ H' => H' = H ∧ ∃ k : Nat, k ≤ dCnt (tl x) b' m' ∧ m = dCnt (tl x) b' m' - k ∧ σ = [some (.str x), some (.int b'), some (.int m'), some (.int ((b' + k : Nat) : Int))])
        _ ⟨rfl, 0, Nat.zero_le _, rfl, by simp⟩ ?_
      rintro m σ H' ⟨rfl, k, hk, rfl, rfl⟩
      have st := dCnt_step (tl x) m' b' k hk
      walk_at "wp"
      simp only [sp_is_digit]
      have hcut : tl (cutS x (some ((b' + k : Nat) : Int)) (some (((b' + k : Nat) : Int) + 1))) = ((tl x).drop (b' + k)).take 1 := by
        have := tl_cut x (b' + k) (b' + k + 1)
        rw [show b' + k + 1 - (b' + k) = 1 by omega] at this
        exact this
      rw [hcut, isDL_at]
      have e1 : decide (((b' + k : Nat) : Int) - (b' : Int) < (m' : Int)) = decide (k < m') := by
        by_cases h : k < m'
        · rw [decide_eq_true h, decide_eq_true (by omega)]
        · rw [decide_eq_false h, decide_eq_false (by omega)]
      rw [e1]
      have fin : k = dCnt (tl x) b' m' → Q (.int ((b' + k : Nat) : Int)) H' := fun e => by rw [e]; exact q
      cases h1 : decide (k < m') with
      | false =>
        rw [h1, Bool.false_and] at st
        simp only [Bool.false_eq_true, ↓reduceIte]
        exact fin (by have := of_decide_eq_false st.symm; omega)
      | true =>
        simp only [↓reduceIte]
        refine ⟨line_of (by omega), ?_⟩
        rw [h1, Bool.true_and] at st
        cases h2 : dAt (tl x) (b' + k) with
        | false =>
          rw [h2] at st
          simp only [Bool.false_eq_true, ↓reduceIte]
          exact fin (by have := of_decide_eq_false st.symm; omega)
        | true =>
          rw [h2] at st
          have := of_decide_eq_true st.symm
          simp only [↓reduceIte]
          exact ⟨_, by omega, trivial, k + 1, by omega, rfl, by simp [Int.add_assoc]⟩
    · exact h.elim
end
end K00
namespace K00
open PySem PySem.Spec PyProof.Rows L2 G
local macro_rules | `(tactic| walk_at "wp") => `(tactic| simp only [cx_K, tM1, CwR.tReplC, rNewStrs, gSub, tFor_L, tLc_L, iEnum, iZipG, iList, iTup, iStr, iRng1, iRng2, wipe, tYes, tRet, tChain, tC, tVar, tOp, tAsg, tSeq, tIfS, tNext, tDrop, tCB, tCall, tCons, tNil, tPart, tNoPart, tSl, tTest, tAnd, tOr, tNot, tTruG, tAndV, tOrV, tNotV, tIf, tUn, rU, gName, gCons_c, gNil_c, S_cat, S_nil, len_S, List.length_append, dig2_len, toS_nat, lit_colon, lit_dash, lit_e, tTup, tLst, tPar, tRaiseC, rAddG, rSubG, rModG, rDivG, rPowG, rLtG, rLeG, rGtG, rGeG, rIxG, rSlG, rLenG, rIntG, rAbsG, rMaxG, rMinG, rStrG, rDivmodG, rMulG, rEqG, rNeG, rInG, L2.start, List.length_cons, List.length_nil, List.map_cons, List.map_nil, List.replicate, List.cons_append, List.nil_append, List.append_nil, List.getElem?_cons_zero, List.getElem?_cons_succ, Option.some.injEq, exists_eq_left', exists_eq_left, exists_eq', V.int.injEq, V.bl.injEq, V.str.injEq, V.ref.injEq, List.cons.injEq, List.set_cons_zero, List.set_cons_succ, Nat.sub_self, Nat.add_sub_cancel, Nat.zero_add, Nat.reduceSub, Nat.reduceAdd, Bool.false_eq_true, reduceIte, exN_iff, dec1, and_true, true_and, isi_ii, isi_ib, isi_ss, Bool.not_true, Bool.not_false, tNever, tFmt02, tFmtG, tJs, List.nil_append, Int.natAbs_natCast])
section
variable {P : Program} {w : World} {K : PySem.W.Frag} {mg : Str → Option Value} {base : Heap} {C_ParseError : Addr}

def sp_is_between : Sp := fun vs H Q _ => match vs with
  | [.int v, .int lo, .int hi] => v.natAbs < 1000000000 ∧ Q (.bl (decide (lo ≤ v) && decide (v ≤ hi))) H
  | _ => False
theorem c_is_between {f : Addr} {fd : FuncData} (T : Txt K mg) (F : Fun K "is_between" "is_between" s_is_between f fd) (hm : mg "is_between" = some (.ref f))  : CallOk P w K mg base "is_between" 1 ["value", "low", "high"] sp_is_between := by
  refine ⟨f, fd, hm, F.kp, F.binds (ps := ["value", "low", "high"]) (fun _ _ _ _ _ _ us hl => match us, hl with | [_, _, _], _ => rfl), F.okX sc_is_between (fun vs H Q E h => ?_) (fun cdv A outer s H vs Q E hr h => ⟨_, (pss_one (ps_ret (pe_and (pe_callB call_isiG (by rfl) T.n_isinstance (by decide +kernel) (pa_cons (pv 0) (pa_cons (pe_bltn (v := .ty "int") (by rfl) T.n_int (by decide +kernel) rfl) pa_nil))) (pe_and (pe_not (pe_callB call_isiG (by rfl) T.n_isinstance (by decide +kernel) (pa_cons (pv 0) (pa_cons (pe_bltn (v := .ty "bool") (by rfl) T.n_bool (by decide +kernel) rfl) pa_nil)))) (pe_one (pe_chain op_leG op_leG (pv 1) (pv 0) (pv 2))))))), ?_⟩)⟩
  · revert h
    unfold sp_is_between
    split <;> intro h <;> first | rfl | exact False.elim h
  · unfold sp_is_between at h
    split at h
    · walk_at "wp"
      rename_i v lo hi
      have q := h.2
      cases e : decide (lo ≤ v) <;> rw [e] at q <;> simpa using q
    · exact h.elim
def sp_is_tick : Sp := fun vs H Q _ => match vs with
  | [.int v] => v.natAbs < 1000000000 ∧ Q (.bl (decide (0 ≤ v) && decide (v ≤ 1000000))) H
  | _ => False
theorem c_is_tick {f : Addr} {fd : FuncData} (T : Txt K mg) (F : Fun K "is_tick" "is_tick" s_is_tick f fd) (hm : mg "is_tick" = some (.ref f)) (C_is_between : CallOk P w K mg base "is_between" 1 ["value", "low", "high"] sp_is_between) : CallOk P w K mg base "is_tick" 2 ["value"] sp_is_tick := by
  refine ⟨f, fd, hm, F.kp, F.binds (ps := ["value"]) (fun _ _ _ _ _ _ us hl => match us, hl with | [_], _ => rfl), F.okX sc_is_tick (fun vs H Q E h => ?_) (fun cdv A outer s H vs Q E hr h => ⟨_, (pss_one (ps_ret (pe_c0 C_is_between (hr.mono (by decide)) (pa_cons (pv 0) (pa_cons pe_int (pa_cons (pe_gI T.g_MAX_TICK) pa_nil)))))), ?_⟩)⟩
  · revert h
    unfold sp_is_tick
    split <;> intro h <;> first | rfl | exact False.elim h
  · unfold sp_is_tick at h
    split at h
    · walk_at "wp"
      simp only [sp_is_between]
      exact h
    · exact h.elim
def sp_check_tick : Sp := fun vs H Q _ => match vs with
  | [.int v] => 0 ≤ v ∧ v ≤ 1000000 ∧ Q .non H
  | _ => False
theorem c_check_tick {f : Addr} {fd : FuncData} (T : Txt K mg) (F : Fun K "check_tick" "check_tick" s_check_tick f fd) (hm : mg "check_tick" = some (.ref f)) (C_is_tick : CallOk P w K mg base "is_tick" 2 ["value"] sp_is_tick) : CallOk P w K mg base "check_tick" 4 ["value"] sp_check_tick := by
  refine ⟨f, fd, hm, F.kp, F.binds (ps := ["value"]) (fun _ _ _ _ _ _ us hl => match us, hl with | [_], _ => rfl), F.okX sc_check_tick (fun vs H Q E h => ?_) (fun cdv A outer s H vs Q E hr h => ⟨_, (pss_one (ps_if (pt_not (pt_truG (pe_c0 C_is_tick (hr.mono (by decide)) (pa_cons (pv 0) pa_nil)))) (pss_one ps_never) pss_nil)), ?_⟩)⟩
  · revert h
    unfold sp_check_tick
    split <;> intro h <;> first | rfl | exact False.elim h
  · unfold sp_check_tick at h
    split at h
    · walk_at "wp"
      simp only [sp_is_tick]
      refine ⟨by omega, ?_⟩
      rw [decide_eq_true h.1, decide_eq_true h.2.1]
      simpa using h.2.2
    · exact h.elim
/-! texts of ticks -/
def textOf (n : Nat) : List Nat := (if n / 86400 = 0 then [] else numL (n / 86400) ++ [45]) ++ (dig2 (n % 86400 / 3600) ++ ([58] ++ (dig2 (n % 3600 / 60) ++ ([58] ++ dig2 (n % 60)))))
def sp_text_of_ticks : Sp := fun vs H Q _ => match vs with
  | [.int v] => 0 ≤ v ∧ v ≤ 1000000 ∧ ∀ H', Same H H' → Q (.str (S (textOf v.toNat))) H'
  | _ => False
theorem c_text_of_ticks {f : Addr} {fd : FuncData} (T : Txt K mg) (F : Fun K "text_of_ticks" "text_of_ticks" s_text_of_ticks f fd) (hm : mg "text_of_ticks" = some (.ref f)) (C_check_tick : CallOk P w K mg base "check_tick" 4 ["value"] sp_check_tick) : CallOk P w K mg base "text_of_ticks" 5 ["number"] sp_text_of_ticks := by
  refine ⟨f, fd, hm, F.kp, F.binds (ps := ["number"]) (fun _ _ _ _ _ _ us hl => match us, hl with | [_], _ => rfl), F.okX sc_text_of_ticks (fun vs H Q E h => ?_) (fun cdv A outer s H vs Q E hr h => ⟨_, (pss_cons (ps_expr (pe_c0 C_check_tick (hr.mono (by decide)) (pa_cons (pv 0) pa_nil)))
      (pss_cons (ps_asg (pe_callB call_divmodG (by rfl) T.n_divmod (by decide +kernel) (pa_cons (pv 0) (pa_cons (pe_gI T.g_DAY) pa_nil))) (pg_tup rfl (pgs_cons (pg_name (i := 1) sc_text_of_ticks.nd rfl (Or.inl rfl)) (pgs_cons (pg_name (i := 2) sc_text_of_ticks.nd rfl (Or.inl rfl)) pgs_nil))))
      (pss_cons (ps_asg (pe_callB call_divmodG (by rfl) T.n_divmod (by decide +kernel) (pa_cons (pv 2) (pa_cons (pe_gI T.g_HOUR) pa_nil))) (pg_tup rfl (pgs_cons (pg_name (i := 3) sc_text_of_ticks.nd rfl (Or.inl rfl)) (pgs_cons (pg_name (i := 2) sc_text_of_ticks.nd rfl (Or.inl rfl)) pgs_nil))))
      (pss_cons (ps_asg (pe_callB call_divmodG (by rfl) T.n_divmod (by decide +kernel) (pa_cons (pv 2) (pa_cons (pe_gI T.g_MINUTE) pa_nil))) (pg_tup rfl (pgs_cons (pg_name (i := 4) sc_text_of_ticks.nd rfl (Or.inl rfl)) (pgs_cons (pg_name (i := 5) sc_text_of_ticks.nd rfl (Or.inl rfl)) pgs_nil))))
      (pss_cons (ps_set (i := 6) sc_text_of_ticks.nd rfl (Or.inl rfl) (pe_joined (.cons (pe_fmtS T.nd (pv 3)) (.cons pe_str (.cons (pe_fmtS T.nd (pv 4)) (.cons pe_str (.cons (pe_fmtS T.nd (pv 5)) .nil)))))))
      (pss_one (ps_ret (pe_ifExp (pt_cmpR op_gtG (pv 1) pe_int (nomark _)) (pe_joined (.cons (pe_fmtG (pv 1)) (.cons pe_str (.cons (pe_fmtG (pv 6)) .nil)))) (pv 6))))))))), ?_⟩)⟩
  · revert h
    unfold sp_text_of_ticks
    split <;> intro h <;> first | rfl | exact False.elim h
  · unfold sp_text_of_ticks at h
    split at h
    · walk_at "wp"
      simp only [sp_check_tick]
      rename_i v
      obtain ⟨h0, h1, q⟩ := h
      obtain ⟨n, rfl⟩ := Int.eq_ofNat_of_zero_le h0
      rw [Int.toNat_natCast] at q
      refine ⟨h0, h1, ⟨by decide, by decide⟩, fun p1 hp1 => ?_⟩
      refine gTup_of upd_same rfl ?_
      walk_at "wp"
      refine ⟨⟨by decide, by decide⟩, fun p2 hp2 => ?_⟩
      refine gTup_of upd_same rfl ?_
      walk_at "wp"
      refine ⟨⟨by decide, by decide⟩, fun p3 hp3 => ?_⟩
      refine gTup_of upd_same rfl ?_
      walk_at "wp"
      have sm := (sameI (o := HO.tup [V.int ((n : Int) / 86400), V.int ((n : Int) % 86400)]) hp1).trans ((sameI (o := HO.tup [V.int ((n : Int) % 86400 / 3600), V.int ((n : Int) % 86400 % 3600)]) hp2).trans (sameI (o := HO.tup [V.int ((n : Int) % 86400 % 3600 / 60), V.int ((n : Int) % 86400 % 3600 % 60)]) hp3))
      have q1 := q _ sm
      refine ⟨n % 86400 / 3600, by omega, by omega, by decide, by decide, n % 3600 / 60, by omega, by omega, by decide, by decide, n % 60, by omega, by omega, by decide, ?_⟩
      unfold textOf at q1
      by_cases hd : n / 86400 = 0
      · rw [if_pos hd] at q1
        rw [if_neg (by intro z; have := of_decide_eq_true z; omega)]
        simpa only [List.append_assoc, List.nil_append] using q1
      · rw [if_neg hd] at q1
        rw [if_pos (decide_eq_true (by omega))]
        have e : (n : Int) / 86400 = ((n / 86400 : Nat) : Int) := by omega
        rw [e] at q1 ⊢
        walk_at "wp"
        have hl := numL_len (n := n / 86400) (k := 2) (by omega) (by decide)
        refine ⟨G.log2_small (by omega), line_of (by omega), line_of (by omega), by decide, line_of (by omega), ?_⟩
        simpa only [List.append_assoc] using q1
    · exact h.elim
end
end K00
namespace K00
open PySem PySem.Spec PyProof.Rows L2 G
local macro_rules | `(tactic| walk_at "wp") => `(tactic| simp only [cx_K, tM1, CwR.tReplC, rNewStrs, gSub, tFor_L, tLc_L, iEnum, iZipG, iList, iTup, iStr, iRng1, iRng2, wipe, tYes, tRet, tChain, tC, tVar, tOp, tAsg, tSeq, tIfS, tNext, tDrop, tCB, tCall, tCons, tNil, tPart, tNoPart, tSl, tTest, tAnd, tOr, tNot, tTruG, tAndV, tOrV, tNotV, tIf, tUn, rU, gName, gCons_c, gNil_c, S_cat, S_nil, len_S, List.length_append, dig2_len, toS_nat, lit_colon, lit_dash, lit_e, tTup, tLst, tPar, tRaiseC, rAddG, rSubG, rModG, rDivG, rPowG, rLtG, rLeG, rGtG, rGeG, rIxG, rSlG, rLenG, rIntG, rAbsG, rMaxG, rMinG, rStrG, rDivmodG, rMulG, rEqG, rNeG, rInG, L2.start, List.length_cons, List.length_nil, List.map_cons, List.map_nil, List.replicate, List.cons_append, List.nil_append, List.append_nil, List.getElem?_cons_zero, List.getElem?_cons_succ, Option.some.injEq, exists_eq_left', exists_eq_left, exists_eq', V.int.injEq, V.bl.injEq, V.str.injEq, V.ref.injEq, List.cons.injEq, List.set_cons_zero, List.set_cons_succ, Nat.sub_self, Nat.add_sub_cancel, Nat.zero_add, Nat.reduceSub, Nat.reduceAdd, Bool.false_eq_true, reduceIte, exN_iff, dec1, and_true, true_and, isi_ii, isi_ib, isi_ss, Bool.not_true, Bool.not_false, tNever, tFmt02, tFmtG, tJs, List.nil_append, Int.natAbs_natCast])
section
variable {P : Program} {w : World} {K : PySem.W.Frag} {mg : Str → Option Value} {base : Heap} {C_ParseError : Addr}

/-! reading numbers -/
def sp__number_end (C : Addr) : Sp := fun vs H Q E => match vs with
  | [.str x, .int b, .int m] => ∃ b' m' : Nat, b = (b' : Int) ∧ m = (m' : Int) ∧ x.length ≤ 1000 ∧
      (dCnt (tl x) b' m' = 0 → PErr C "spot" (.int (b' : Nat)) H E) ∧ (dCnt (tl x) b' m' ≠ 0 → Q (.int (dEnd (tl x) b' m' : Nat)) H)
  | _ => False
theorem c__number_end {f : Addr} {fd : FuncData} (T : Txt K mg) (F : Fun K "_number_end" "_number_end" s__number_end f fd) (hm : mg "_number_end" = some (.ref f)) (C_digits_end : CallOk P w K mg base "digits_end" 2 ["text", "begin", "most"] sp_digits_end) (R_ParseError : ErrOk P w K mg base "ParseError" "spot" C_ParseError) : CallOk P w K mg base "_number_end" 4 ["text", "begin", "most"] (sp__number_end C_ParseError) := by
  refine ⟨f, fd, hm, F.kp, F.binds (ps := ["text", "begin", "most"]) (fun _ _ _ _ _ _ us hl => match us, hl with | [_, _, _], _ => rfl), F.okX sc__number_end (fun vs H Q E h => ?_) (fun cdv A outer s H vs Q E hr h => ⟨_, (pss_cons (ps_set (i := 3) sc__number_end.nd rfl (Or.inl rfl) (pe_c0 C_digits_end (hr.mono (by decide)) (pa_cons (pv 0) (pa_cons (pv 1) (pa_cons (pv 2) pa_nil)))))
      (pss_cons (ps_if (pt_cmpR (op_eqG hr.units) (pv 3) (pv 1) (nomark _)) (pss_one (ps_raiseC R_ParseError (hr.mono (by decide)) (takes_of rfl rfl rfl rfl) (pa_cons (pv 1) pa_nil))) pss_nil)
      (pss_one (ps_ret (pv 3))))), ?_⟩)⟩
  · revert h
    unfold sp__number_end
    split <;> intro h <;> first | rfl | exact False.elim h
  · unfold sp__number_end at h
    split at h
    · walk_at "wp"
      rename_i x b m
      obtain ⟨b', m', rfl, rfl, hx, q1, q2⟩ := h
      simp only [sp_digits_end]
      refine ⟨b', m', rfl, rfl, hx, ?_⟩
      by_cases h0 : dCnt (tl x) b' m' = 0
      · rw [if_pos (decide_eq_true (by unfold dEnd; omega))]
        exact rMk_of (q1 h0)
      · rw [if_neg (by intro z; have := of_decide_eq_true z; unfold dEnd at this; omega)]
        exact q2 h0
    · exact h.elim
def sp__worths : Sp := fun vs H Q _ => match vs with
  | [.int n, .bl d] => ∀ p, H p = none → Q (.ref p) (upd H p (.tup ((if d = true then [86400, 3600, 60, 1] else if n = 3 then [3600, 60, 1] else [60, 1]).map V.int)))
  | _ => False
theorem c__worths {f : Addr} {fd : FuncData} (T : Txt K mg) (F : Fun K "_worths" "_worths" s__worths f fd) (hm : mg "_worths" = some (.ref f))  : CallOk P w K mg base "_worths" 1 ["many", "has_days"] sp__worths := by
  refine ⟨f, fd, hm, F.kp, F.binds (ps := ["many", "has_days"]) (fun _ _ _ _ _ _ us hl => match us, hl with | [_, _], _ => rfl), F.okX sc__worths (fun vs H Q E h => ?_) (fun cdv A outer s H vs Q E hr h => ⟨_, (pss_cons (ps_if (pt_truG (pv 1)) (pss_one (ps_ret (pe_tup (pa_cons (pe_gI T.g_DAY) (pa_cons (pe_gI T.g_HOUR) (pa_cons (pe_gI T.g_MINUTE) (pa_cons pe_int pa_nil))))))) pss_nil)
      (pss_cons (ps_if (pt_cmpR (op_eqG hr.units) (pv 0) pe_int (nomark _)) (pss_one (ps_ret (pe_tup (pa_cons (pe_gI T.g_HOUR) (pa_cons (pe_gI T.g_MINUTE) (pa_cons pe_int pa_nil)))))) pss_nil)
      (pss_one (ps_ret (pe_tup (pa_cons (pe_gI T.g_MINUTE) (pa_cons pe_int pa_nil))))))), ?_⟩)⟩
  · revert h
    unfold sp__worths
    split <;> intro h <;> first | rfl | exact False.elim h
  · unfold sp__worths at h
    split at h
    · walk_at "wp"
      rename_i n d
      cases d with
      | true => exact ⟨by decide, h⟩
      | false =>
        simp only [Bool.false_eq_true, ↓reduceIte] at h ⊢
        by_cases h3 : n = 3
        · rw [if_pos h3] at h
          rw [if_pos (decide_eq_true h3)]
          exact ⟨by decide, h⟩
        · rw [if_neg h3] at h
          rw [if_neg (by intro z; exact h3 (of_decide_eq_true z))]
          exact ⟨by decide, h⟩
    · exact h.elim
/-! the numbers of a text -/
abbrev valD (l : List Nat) : Nat := NumText.digitsVal l
def cut (t : List Nat) (b c : Nat) : List Nat := (t.drop b).take c
theorem cut_all (t : List Nat) : ∀ m b, (cut t b (dCnt t b m)).all isD = true
  | 0, b => by simp [cut, dCnt]
  | m + 1, b => by
    unfold dCnt
    split
    · rename_i h
      have ih := cut_all t m (b + 1)
      unfold dAt at h
      cases hb : t[b]? with
      | none => rw [hb] at h; cases h
      | some c =>
        rw [hb] at h
        obtain ⟨hi, e⟩ := List.getElem?_eq_some_iff.mp hb
        unfold cut at ih ⊢
        rw [List.drop_eq_getElem_cons hi, List.take_succ_cons, List.all_cons, e]
        rw [show isD c = true from h, ih]
        rfl
    · simp [cut]
theorem dCnt_fit (t : List Nat) : ∀ m b, b + dCnt t b m ≤ t.length ∨ dCnt t b m = 0
  | 0, b => .inr rfl
  | m + 1, b => by
    unfold dCnt
    split
    · rename_i h
      refine .inl ?_
      unfold dAt at h
      cases hb : t[b]? with
      | none => rw [hb] at h; cases h
      | some c =>
        obtain ⟨hi, e⟩ := List.getElem?_eq_some_iff.mp hb
        rcases dCnt_fit t m (b + 1) with h2 | h2
        · omega
        · omega
    · exact .inr rfl
theorem cut_len (t : List Nat) (m b : Nat) : (cut t b (dCnt t b m)).length = dCnt t b m := by
  unfold cut
  rw [List.length_take, List.length_drop]
  rcases dCnt_fit t m b with h | h <;> omega
theorem cut_int {t : List Nat} {m b : Nat} (h0 : dCnt t b m ≠ 0) (hm : m ≤ 600) : PySem.intText? (S (cut t b (dCnt t b m))) = some ((valD (cut t b (dCnt t b m)) : Nat) : Int) ∧ (S (cut t b (dCnt t b m))).length ≤ 640 := by
  have hl := cut_len t m b
  have := dCnt_le t m b
  refine ⟨SX.int_S (cut_all t m b) (fun z => ?_) (by omega), by rw [len_S]; omega⟩
  rw [z] at hl
  exact h0 hl.symm
/-- reading on from e by fuel: a spot, or all numbers -/
def rdN (t : List Nat) (hd : Bool) : Nat → Nat → List (Nat × Nat) → Sum Nat (List (Nat × Nat))
  | 0, _, ns => .inr ns
  | f + 1, e, ns => if e < t.length then
      (if t[e]? ≠ some (if hd = true ∧ ns.length = 1 then 45 else 58) ∨ ns.length = (if hd = true then 4 else 3) then .inl e else
        if dCnt t (e + 1) 2 = 0 then .inl (e + 1) else rdN t hd f (e + 1 + dCnt t (e + 1) 2) (ns ++ [(e + 1, valD (cut t (e + 1) (dCnt t (e + 1) 2)))]))
    else .inr ns
/-- whether days are the first number -/
def hasD (t : List Nat) : Bool := decide (t[dCnt t 0 7]? = some 45)
def readN (t : List Nat) : Sum Nat (List (Nat × Nat)) :=
  if dCnt t 0 7 = 0 then .inl 0 else rdN t (hasD t) (t.length + 1) (dCnt t 0 7) [(0, valD (cut t 0 (dCnt t 0 7)))]
end
end K00
namespace K00
open PySem PySem.Spec PyProof.Rows L2 G
local macro_rules | `(tactic| walk_at "wp") => `(tactic| simp only [cx_K, tM1, CwR.tReplC, rNewStrs, gSub, tFor_L, tLc_L, iEnum, iZipG, iList, iTup, iStr, iRng1, iRng2, wipe, tYes, tRet, tChain, tC, tVar, tOp, tAsg, tSeq, tIfS, tNext, tDrop, tCB, tCall, tCons, tNil, tPart, tNoPart, tSl, tTest, tAnd, tOr, tNot, tTruG, tAndV, tOrV, tNotV, tIf, tUn, rU, gName, gCons_c, gNil_c, S_cat, S_nil, len_S, List.length_append, dig2_len, toS_nat, lit_colon, lit_dash, lit_e, tTup, tLst, tPar, tRaiseC, rAddG, rSubG, rModG, rDivG, rPowG, rLtG, rLeG, rGtG, rGeG, rIxG, rSlG, rLenG, rIntG, rAbsG, rMaxG, rMinG, rStrG, rDivmodG, rMulG, rEqG, rNeG, rInG, L2.start, List.length_cons, List.length_nil, List.map_cons, List.map_nil, List.replicate, List.cons_append, List.nil_append, List.append_nil, List.getElem?_cons_zero, List.getElem?_cons_succ, Option.some.injEq, exists_eq_left', exists_eq_left, exists_eq', V.int.injEq, V.bl.injEq, V.str.injEq, V.ref.injEq, List.cons.injEq, List.set_cons_zero, List.set_cons_succ, Nat.sub_self, Nat.add_sub_cancel, Nat.zero_add, Nat.reduceSub, Nat.reduceAdd, Bool.false_eq_true, reduceIte, exN_iff, dec1, and_true, true_and, isi_ii, isi_ib, isi_ss, Bool.not_true, Bool.not_false, tNever, tFmt02, tFmtG, tJs, List.nil_append, Int.natAbs_natCast])
section
variable {P : Program} {w : World} {K : PySem.W.Frag} {mg : Str → Option Value} {base : Heap} {C_ParseError : Addr}

theorem take1_eq (t : List Nat) (i c : Nat) : decide ((t.drop i).take 1 = [c]) = decide (t[i]? = some c) := by
  cases h : t[i]? with
  | none =>
    rw [List.drop_eq_nil_of_le (List.getElem?_eq_none_iff.mp h)]
    rfl
  | some d =>
    obtain ⟨hi, e⟩ := List.getElem?_eq_some_iff.mp h
    rw [List.drop_eq_getElem_cons hi, e]
    simp
/-- a list of pairs of numbers -/
def NumsAt (H : Hp) (rs : List V) (ns : List (Nat × Nat)) : Prop := rs.length = ns.length ∧ ∀ i b n : Nat, ns[i]? = some (b, n) → ∃ a, rs[i]? = some (V.ref a) ∧ H a = some (HO.tup [V.int (b : Int), V.int (n : Int)])
def sp__read_numbers (C : Addr) : Sp := fun vs H Q E => match vs with
  | [.str x] => x.length ≤ 600 ∧ (∀ e, readN (tl x) = .inl e → PErr C "spot" (.int (e : Nat)) H E) ∧
      (∀ ns, readN (tl x) = .inr ns → ∀ H' p l rs, Same H H' → H p = none → H' p = some (.tup [.ref l, .bl (hasD (tl x))]) → H' l = some (.lst rs) → NumsAt H' rs ns → Q (.ref p) H')
  | _ => False
theorem c__read_numbers {f : Addr} {fd : FuncData} (T : Txt K mg) (F : Fun K "_read_numbers" "_read_numbers" s__read_numbers f fd) (hm : mg "_read_numbers" = some (.ref f)) (C__number_end : CallOk P w K mg base "_number_end" 4 ["text", "begin", "most"] (sp__number_end C_ParseError)) (R_ParseError : ErrOk P w K mg base "ParseError" "spot" C_ParseError) : CallOk P w K mg base "_read_numbers" 5 ["text"] (sp__read_numbers C_ParseError) := by
  refine ⟨f, fd, hm, F.kp, F.binds (ps := ["text"]) (fun _ _ _ _ _ _ us hl => match us, hl with | [_], _ => rfl), F.okX sc__read_numbers (fun vs H Q E h => ?_) (fun cdv A outer s H vs Q E hr h => ⟨_, (pss_cons (ps_set (i := 1) sc__read_numbers.nd rfl (Or.inl rfl) (pe_cc C__number_end (passes_call (takes_of rfl rfl rfl rfl) (fun _ _ _ _ h => h)) (hr.mono (by decide)) (pa_cons (pv 0) (pa_cons pe_int (pa_cons (pe_gI T.g_MAX_FIRST_DIGITS) pa_nil)))))
      (pss_cons (ps_set (i := 2) sc__read_numbers.nd rfl (Or.inl rfl) (pe_lst (pa_cons (pe_tup (pa_cons pe_int (pa_cons (pe_callTy call_intG (by rfl) T.n_int (by decide +kernel) (pa_cons (pe_slice sl_G (pv 0) po_none (po_some (pv 1))) pa_nil)) pa_nil))) pa_nil)))
      (pss_cons (ps_set (i := 3) sc__read_numbers.nd rfl (Or.inl rfl) (pe_cmpR (op_eqG hr.units) (pe_slice sl_G (pv 0) (po_some (pv 1)) (po_some (pe_op op_addG (pv 1) pe_int))) pe_str (nomark _)))
      (pss_cons (ps_set (i := 4) sc__read_numbers.nd rfl (Or.inl rfl) (pe_ifExp (pt_truG (pv 3)) pe_int pe_int))
      (pss_cons (ps_while (passes_of rfl) (pt_cmpR op_ltG (pv 1) (pe_callB call_lenG (by rfl) T.n_len (by decide +kernel) (pa_cons (pv 0) pa_nil)) (nomark _)) (pss_cons (ps_set (i := 5) sc__read_numbers.nd rfl (Or.inl rfl) (pe_ifExp (PW.pt (pw_and (pt_truG (pv 3)) (pw_and1 (pt_cmpR (op_eqG hr.units) (pe_callB call_lenG (by rfl) T.n_len (by decide +kernel) (pa_cons (pv 2) pa_nil)) pe_int (nomark _))))) pe_str pe_str))
      (pss_cons (ps_if (PW.pt (pw_or (pt_cmpR (op_neG hr.units) (pe_ix ix_G (pv 0) (pv 1) (fun _ _ => rfl)) (pv 5) (nomark _)) (pw_or1 (pt_cmpR (op_eqG hr.units) (pe_callB call_lenG (by rfl) T.n_len (by decide +kernel) (pa_cons (pv 2) pa_nil)) (pv 4) (nomark _))))) (pss_one (ps_raiseC R_ParseError (hr.mono (by decide)) (takes_of rfl rfl rfl rfl) (pa_cons (pv 1) pa_nil))) pss_nil)
      (pss_cons (ps_set (i := 6) sc__read_numbers.nd rfl (Or.inl rfl) (pe_op op_addG (pv 1) pe_int))
      (pss_cons (ps_set (i := 1) sc__read_numbers.nd rfl (Or.inl rfl) (pe_cc C__number_end (passes_call (takes_of rfl rfl rfl rfl) (fun _ _ _ _ h => h)) (hr.mono (by decide)) (pa_cons (pv 0) (pa_cons (pv 6) (pa_cons (pe_gI T.g_MAX_LATER_DIGITS) pa_nil)))))
      (pss_one (ps_expr (pe_bm PySem.F.plainAttrs_list PySem.F.slot_list_append PySem.F.type_list_append mt_append (pv 2) (pa_cons (pe_tup (pa_cons (pv 6) (pa_cons (pe_callTy call_intG (by rfl) T.n_int (by decide +kernel) (pa_cons (pe_slice sl_G (pv 0) (po_some (pv 6)) (po_some (pv 1))) pa_nil)) pa_nil))) pa_nil)))))))))
      (pss_one (ps_ret (pe_tup (pa_cons (pv 2) (pa_cons (pv 3) pa_nil)))))))))), ?_⟩)⟩
  · revert h
    unfold sp__read_numbers
    split <;> intro h <;> first | rfl | exact False.elim h
  · unfold sp__read_numbers at h
    split at h
    · walk_at "wp"
      rename_i x
      obtain ⟨hx, q1, q2⟩ := h
      simp only [sp__number_end]
      refine ⟨0, 7, rfl, rfl, by omega, fun h0 => ?_, fun h0 => ?_⟩
      · exact q1 0 (by unfold readN; rw [if_pos h0])
      · have he : dEnd (tl x) 0 7 = dCnt (tl x) 0 7 := Nat.zero_add _
        rw [he]
        rw [readN, if_neg h0] at q1 q2
        have hc := cut_int (t := tl x) (b := 0) h0 (by decide)
        have hs : cutS x none (some ((dCnt (tl x) 0 7 : Nat) : Int)) = S (cut (tl x) 0 (dCnt (tl x) 0 7)) := str_eta (tl_cut0 x _)
        have hs2 : tl (cutS x (some ((dCnt (tl x) 0 7 : Nat) : Int)) (some (((dCnt (tl x) 0 7 : Nat) : Int) + 1))) = ((tl x).drop (dCnt (tl x) 0 7)).take 1 := by
          have := tl_cut x (dCnt (tl x) 0 7) (dCnt (tl x) 0 7 + 1)
          rw [Nat.add_sub_cancel_left] at this
          exact this
        have hd : decide (((tl x).drop (dCnt (tl x) 0 7)).take 1 = tl (S [45])) = hasD (tl x) := take1_eq _ _ _
        walk_at "wp"
        rw [hs]
        refine ⟨line_of (by omega), _, hc.1, hc.2, by decide, fun p1 hp1 => ⟨by decide, fun l hl => ⟨line_of (by omega), ?_⟩⟩⟩
        rw [hs2, hd]
        have key : ∀ most : Int, most = (if hasD (tl x) = true then 4 else 3) → tWhile (tTest (tOp rLtG (tVar 1) (tCB (rLenG K) (tCons (tVar 0) tNil))))
            (tSeq (tAsg (tIf (tAnd (tTruG K (tVar 3)) (tTest (tOp (rEqG K) (tCB (rLenG K) (tCons (tVar 2) tNil)) (tC (V.int 1))))) (tC (V.str (S [45]))) (tC (V.str (S [58])))) (gName 5))
              (tSeq (tIfS (tOr (tTest (tOp (rNeG K) (tOp (rIxG K) (tVar 0) (tVar 1)) (tVar 5))) (tTest (tOp (rEqG K) (tCB (rLenG K) (tCons (tVar 2) tNil)) (tVar 4))))
                  (tRaiseC C_ParseError (Str.ofString "spot") (fun cls d x H => E cls d H) (tCons (tVar 1) tNil)) tNext)
                (tSeq (tAsg (tOp (rAddG K) (tVar 1) (tC (V.int 1))) (gName 6))
                  (tSeq (tAsg (tCall (sp__number_end C_ParseError) [] E (tCons (tVar 0) (tCons (tVar 6) (tCons (tC (V.int 2)) tNil)))) (gName 1))
                    (tDrop (tBM K "list" rAppend (tVar 2) (tCons (tTup (tCons (tVar 6) (tCons (tCB rIntG (tCons (tSl (rSlG K) (tVar 0) (tPart (tVar 6)) (tPart (tVar 1))) tNil)) tNil))) tNil)))))))
            { nx := tRet (tTup (tCons (tVar 2) (tCons (tVar 3) tNil))) { nx := fun x H' => Q V.non H', rt := Q }, rt := Q }
            [some (V.str x), some (V.int (dCnt (tl x) 0 7 : Nat)), some (V.ref l), some (V.bl (hasD (tl x))), some (V.int most), none, none]
            (upd (upd H p1 (HO.tup [V.int 0, V.int (valD (cut (tl x) 0 (dCnt (tl x) 0 7)) : Nat)])) l (HO.lst [V.ref p1])) := by
          intro most hmost
          generalize hR : rdN (tl x) (hasD (tl x)) ((tl x).length + 1) (dCnt (tl x) 0 7) [(0, valD (cut (tl x) 0 (dCnt (tl x) 0 7)))] = R at q1 q2
          have hp1l : p1 ≠ l := ne_of_none upd_same hl
          have hl0 : H l = none := by
            rw [upd_ne (Ne.symm hp1l)] at hl
            exact hl
          refine whm (fun m σ H' => ∃ (e : Nat) (ns : List (Nat × Nat)) (rs : List V) (s5 s6 : Option V), σ = [some (V.str x), some (V.int e), some (V.ref l), some (V.bl (hasD (tl x))), some (V.int most), s5, s6] ∧
            rdN (tl x) (hasD (tl x)) m e ns = R ∧ (tl x).length < e + m ∧ Same H H' ∧ H' l = some (.lst rs) ∧ NumsAt H' rs ns ∧ 1 ≤ ns.length ∧ (ns.length : Int) ≤ most) ((tl x).length + 1)
            ⟨dCnt (tl x) 0 7, _, _, none, none, rfl, hR, by omega, (sameI hp1).trans (sameI hl), upd_same, ⟨rfl, fun i b n e => ?_⟩, by show 1 ≤ 1; decide, by rw [hmost]; split <;> (show (1 : Int) ≤ _; decide)⟩ ?_
          · cases i with
            | zero =>
              cases e
              exact ⟨p1, rfl, by rw [upd_ne hp1l, upd_same]; rfl⟩
            | succ i => simp at e
          · rintro m σ H' ⟨e, ns, rs, s5, s6, rfl, hr, hm, sm, hl', hn, hn1, hn4⟩
            walk_at "wp"
            refine ⟨line_of (by omega), ?_⟩
            have hlen := len_tl x
            by_cases hlt : e < (tl x).length
            · rw [if_pos (decide_eq_true (by omega))]
              obtain ⟨f, rfl⟩ : ∃ f, m = f + 1 := ⟨m - 1, by omega⟩
              rw [rdN, if_pos hlt] at hr
              refine ⟨fun σ' H'' => ∃ m', m' < f + 1 ∧ ∃ (e : Nat) (ns : List (Nat × Nat)) (rs : List V) (s5 s6 : Option V), σ' = [some (V.str x), some (V.int e), some (V.ref l), some (V.bl (hasD (tl x))), some (V.int most), s5, s6] ∧
                rdN (tl x) (hasD (tl x)) m' e ns = R ∧ (tl x).length < e + m' ∧ Same H H'' ∧ H'' l = some (.lst rs) ∧ NumsAt H'' rs ns ∧ 1 ≤ ns.length ∧ (ns.length : Int) ≤ most, fun _ _ h => h, ?_⟩
              have hge : (tl x)[e]? = some (tl x)[e] := List.getElem?_eq_getElem hlt
              rw [hge] at hr
              have hrl : rs.length = ns.length := hn.1
              have hmost2 : (if hasD (tl x) = true then 4 else 3 : Nat) = most := by
                rw [hmost]
                split <;> rfl
              have bad : ∀ j : Nat, (if hasD (tl x) = true ∧ ns.length = 1 then 45 else 58) = j → (tl x)[e] ≠ j → R = .inl e := fun j hj hne => by
                rw [← hr, hj, if_pos (Or.inl fun z => hne (Option.some.inj z))]
              have full : (ns.length : Int) = most → R = .inl e := fun z => by
                rw [← hr, if_pos (Or.inr (by omega))]
              have go : ∀ j : Nat, (if hasD (tl x) = true ∧ ns.length = 1 then 45 else 58) = j → (tl x)[e] = j → (ns.length : Int) ≠ most →
                  (if dCnt (tl x) (e + 1) 2 = 0 then Sum.inl (e + 1) else rdN (tl x) (hasD (tl x)) f (e + 1 + dCnt (tl x) (e + 1) 2) (ns ++ [(e + 1, valD (cut (tl x) (e + 1) (dCnt (tl x) (e + 1) 2)))])) = R := fun j hj he hne => by
                rw [← hr, hj]
                refine (if_neg ?_).symm
                rintro (z | z)
                · exact z (by rw [he])
                · exact hne (by omega)
              have tail : ∀ (j : Nat) (s5 : Option V), (if hasD (tl x) = true ∧ ns.length = 1 then 45 else 58) = j → x.length ≤ sizeLine ∧ ∃ c, atI (tl x) (e : Nat) = some c ∧
                  if (!decide (c = j)) = true then rMk C_ParseError (Str.ofString "spot") [V.int e] H' fun cls d H' => E cls d H'
                  else ∃ ys, (SqL K H' l ys ∨ SqT K H' l ys) ∧ if decide (((ys.length : Nat) : Int) = most) = true then rMk C_ParseError (Str.ofString "spot") [V.int e] H' fun cls d H' => E cls d H'
                    else sp__number_end C_ParseError [V.str x, V.int (e + 1), V.int 2] H'
                      (fun x_1 H1 => tBM K "list" rAppend (tVar 2) (tCons (tTup (tCons (tVar 6) (tCons (tCB rIntG (tCons (tSl (rSlG K) (tVar 0) (tPart (tVar 6)) (tPart (tVar 1))) tNil)) tNil))) tNil)
                        [some (V.str x), some x_1, some (V.ref l), some (V.bl (hasD (tl x))), some (V.int most), s5, some (V.int (e + 1))]
                        H1 fun x_2 H1 => ∃ m', m' < f + 1 ∧ ∃ (e_1 : Nat) (ns : List (Nat × Nat)) (rs : List V) (s5_1 s6 : Option V),
                          [some (V.str x), some x_1, some (V.ref l), some (V.bl (hasD (tl x))), some (V.int most), s5, some (V.int (e + 1))] = [some (V.str x), some (V.int e_1), some (V.ref l), some (V.bl (hasD (tl x))), some (V.int most), s5_1, s6] ∧
                          rdN (tl x) (hasD (tl x)) m' e_1 ns = R ∧ (tl x).length < e_1 + m' ∧ Same H H1 ∧ H1 l = some (.lst rs) ∧ NumsAt H1 rs ns ∧ 1 ≤ ns.length ∧ (ns.length : Int) ≤ most) E := by
                intro j s5 hj
                refine ⟨line_of (by omega), (tl x)[e], atI_nat hge, ?_⟩
                by_cases hc5 : (tl x)[e] = j
                · rw [decide_eq_true hc5, if_neg (by decide)]
                  refine ⟨rs, .inl (SqL.of hl'), ?_⟩
                  rw [hrl]
                  by_cases hm4 : (ns.length : Int) = most
                  · rw [if_pos (decide_eq_true hm4)]
                    exact rMk_of ((q1 e (full hm4)).mono sm)
                  · rw [if_neg (by intro z; exact hm4 (of_decide_eq_true z))]
                    have hgo := go j hj hc5 hm4
                    refine ⟨e + 1, 2, by omega, rfl, by omega, fun hz => ?_, fun hz => ?_⟩
                    · rw [if_pos hz] at hgo
                      exact (q1 (e + 1) hgo.symm).mono sm
                    · rw [if_neg hz] at hgo
                      simp only [tBM]
                      walk_at "wp"
                      have hm4' : most ≤ 4 := by rw [hmost]; split <;> decide
                      have hci := cut_int (t := tl x) (b := e + 1) hz (by decide)
                      have hce : cutS x (some ((e : Int) + 1)) (some ((dEnd (tl x) (e + 1) 2 : Nat) : Int)) = S (cut (tl x) (e + 1) (dCnt (tl x) (e + 1) 2)) := by
                        refine str_eta ((tl_cut x (e + 1) (dEnd (tl x) (e + 1) 2)).trans ?_)
                        unfold dEnd
                        rw [Nat.add_sub_cancel_left]
                        rfl
                      rw [hce]
                      refine ⟨.inl ⟨rfl, rs, SqL.of hl'⟩, line_of (by omega), _, hci.1, hci.2, by decide, fun p hp => ?_⟩
                      have hlp : l ≠ p := ne_of_none hl' hp
                      refine ⟨l, rs, _, rfl, rfl, (by rw [upd_ne hlp]; exact hl'), Nat.lt_of_le_of_lt (show rs.length ≤ 4 by omega) (by decide), ?_⟩
                      refine ⟨f, by omega, dEnd (tl x) (e + 1) 2, _, rs ++ [V.ref p], _, _, ⟨rfl, rfl, rfl⟩, hgo, by unfold dEnd; omega, same_mut (sm.trans (sameI hp)) hl0, upd_same, ?_, by rw [List.length_append]; omega, ?_⟩
                      · refine ⟨by rw [List.length_append, List.length_append, hrl]; rfl, fun i b n ei => ?_⟩
                        by_cases hi : i < ns.length
                        · rw [List.getElem?_append_left hi] at ei
                          obtain ⟨a, h1, h2⟩ := hn.2 i b n ei
                          refine ⟨a, by rw [List.getElem?_append_left (by omega)]; exact h1, ?_⟩
                          have ha1 : a ≠ p := ne_of_none h2 hp
                          have ha2 : a ≠ l := ne_of h2 hl' (by intro z; cases z)
                          rw [upd_ne ha2, upd_ne ha1]
                          exact h2
                        · rw [List.getElem?_append_right (by omega)] at ei
                          have hi0 : i - ns.length = 0 := by
                            cases q : i - ns.length with
                            | zero => rfl
                            | succ k => rw [q] at ei; simp at ei
                          rw [hi0] at ei
                          cases ei
                          refine ⟨p, by rw [List.getElem?_append_right (by omega), hrl, hi0]; rfl, ?_⟩
                          rw [upd_ne hlp.symm, upd_same]
                          rfl
                      · rw [List.length_append]
                        show ((ns.length + 1 : Nat) : Int) ≤ most
                        omega
                · rw [decide_eq_false hc5, if_pos (by decide)]
                  exact rMk_of ((q1 e (bad j hj hc5)).mono sm)
              cases hD : hasD (tl x) with
              | true =>
                rw [hD] at tail
                rw [if_pos rfl]
                refine ⟨rs, .inl (SqL.of hl'), ?_⟩
                rw [hrl]
                by_cases h1 : ns.length = 1
                · rw [if_pos (decide_eq_true (by omega))]
                  exact tail 45 _ (if_pos ⟨rfl, h1⟩)
                · rw [if_neg (by intro z; have := of_decide_eq_true z; omega)]
                  exact tail 58 _ (if_neg fun z => h1 z.2)
              | false =>
                rw [hD] at tail
                rw [if_neg Bool.false_ne_true]
                exact tail 58 _ (if_neg fun z => nomatch z.1)
            · rw [if_neg (by intro z; have := of_decide_eq_true z; omega)]
              have hr' : R = .inr ns := by
                rw [← hr]
                cases m with
                | zero => rfl
                | succ f => rw [rdN, if_neg hlt]
              refine ⟨by decide, fun p hp => ?_⟩
              have hpl : l ≠ p := ne_of_none hl' hp
              refine q2 ns hr' _ p l rs (sm.trans (sameI hp)) (sm.free hp) upd_same (by rw [upd_ne hpl]; exact hl') ⟨hn.1, fun i b n e => ?_⟩
              obtain ⟨a, h1, h2⟩ := hn.2 i b n e
              exact ⟨a, h1, by rw [upd_ne (ne_of_none h2 hp)]; exact h2⟩
        cases hh : hasD (tl x) with
        | true =>
          have k := key 4 (by rw [hh]; rfl)
          rw [hh] at k
          rw [if_pos rfl]
          exact k
        | false =>
          have k := key 3 (by rw [hh]; rfl)
          rw [hh] at k
          rw [if_neg Bool.false_ne_true]
          exact k
    · exact h.elim
end
end K00
namespace K00
open PySem PySem.Spec PyProof.Rows L2 G
local macro_rules | `(tactic| walk_at "wp") => `(tactic| simp only [cx_K, tM1, CwR.tReplC, rNewStrs, gSub, tFor_L, tLc_L, iEnum, iZipG, iList, iTup, iStr, iRng1, iRng2, wipe, tYes, tRet, tChain, tC, tVar, tOp, tAsg, tSeq, tIfS, tNext, tDrop, tCB, tCall, tCons, tNil, tPart, tNoPart, tSl, tTest, tAnd, tOr, tNot, tTruG, tAndV, tOrV, tNotV, tIf, tUn, rU, gName, gCons_c, gNil_c, S_cat, S_nil, len_S, List.length_append, dig2_len, toS_nat, lit_colon, lit_dash, lit_e, tTup, tLst, tPar, tRaiseC, rAddG, rSubG, rModG, rDivG, rPowG, rLtG, rLeG, rGtG, rGeG, rIxG, rSlG, rLenG, rIntG, rAbsG, rMaxG, rMinG, rStrG, rDivmodG, rMulG, rEqG, rNeG, rInG, L2.start, List.length_cons, List.length_nil, List.map_cons, List.map_nil, List.replicate, List.cons_append, List.nil_append, List.append_nil, List.getElem?_cons_zero, List.getElem?_cons_succ, Option.some.injEq, exists_eq_left', exists_eq_left, exists_eq', V.int.injEq, V.bl.injEq, V.str.injEq, V.ref.injEq, List.cons.injEq, List.set_cons_zero, List.set_cons_succ, Nat.sub_self, Nat.add_sub_cancel, Nat.zero_add, Nat.reduceSub, Nat.reduceAdd, Bool.false_eq_true, reduceIte, exN_iff, dec1, and_true, true_and, isi_ii, isi_ib, isi_ss, Bool.not_true, Bool.not_false, tNever, tFmt02, tFmtG, tJs, List.nil_append, Int.natAbs_natCast])
section
variable {P : Program} {w : World} {K : PySem.W.Frag} {mg : Str → Option Value} {base : Heap} {C_ParseError : Addr}

/-- the first later number that is too big, by its place -/
def badN (hd : Bool) : Nat → List (Nat × Nat) → Option Nat
  | _, [] => none
  | i, (b, n) :: r => if (if hd = true ∧ i = 0 then 24 else 60) ≤ n then some b else badN hd (i + 1) r
def worthsL (many : Nat) (hd : Bool) : List Nat := if hd = true then [86400, 3600, 60, 1] else if many = 3 then [3600, 60, 1] else [60, 1]
def sumW : List Nat → List (Nat × Nat) → Nat
  | w :: ws, (_, n) :: r => w * n + sumW ws r
  | _, _ => 0
def prods : List Nat → List (Nat × Nat) → List Int
  | w :: ws, (_, n) :: r => (w : Int) * (n : Int) :: prods ws r
  | _, _ => []
theorem prods_sum : ∀ ws ns, (prods ws ns).sum = ((sumW ws ns : Nat) : Int)
  | [], _ => by simp [prods, sumW]
  | _ :: _, [] => by simp [prods, sumW]
  | w :: ws, (b, n) :: r => by simp [prods, sumW, prods_sum ws r]
theorem prods_len : ∀ ws ns, (prods ws ns).length = min ws.length ns.length
  | [], _ => by simp [prods]
  | _ :: _, [] => by simp [prods]
  | w :: ws, (b, n) :: r => by simp only [prods, List.length_cons, prods_len ws r]; omega
theorem prods_at : ∀ ws ns (i b n w : Nat), ws[i]? = some w → ns[i]? = some (b, n) → (prods ws ns)[i]? = some ((w : Int) * (n : Int))
  | [], _, i, b, n, w, h, _ => by simp at h
  | _ :: _, [], i, b, n, w, _, h => by simp at h
  | w0 :: ws, (b0, n0) :: r, 0, b, n, w, h, h2 => by
    simp at h h2
    simp [prods, h, h2]
  | w0 :: ws, (b0, n0) :: r, i + 1, b, n, w, h, h2 => by
    simp at h h2
    simp [prods, prods_at ws r i b n w h h2]
def ticksR (t : List Nat) : Sum Nat Nat := match readN t with
  | .inl e => .inl e
  | .inr ns => match badN (hasD t) 0 ns.tail with
    | some b => .inl b
    | none => if 1000000 < sumW (worthsL ns.length (hasD t)) ns then .inl t.length else .inr (sumW (worthsL ns.length (hasD t)) ns)
def sp_ticks_of (C : Addr) : Sp := fun vs H Q E => match vs with
  | [.str x] => x.length ≤ 600 ∧ (∀ e, ticksR (tl x) = .inl e → PErr C "spot" (.int (e : Nat)) H E) ∧ (∀ v, ticksR (tl x) = .inr v → ∀ H', Same H H' → Q (.int (v : Nat)) H')
  | _ => False
theorem NumsAt.mono {H H' : Hp} {rs : List V} {ns : List (Nat × Nat)} (h : NumsAt H rs ns) (s : ∀ a b n, H a = some (HO.tup [V.int (b : Int), V.int (n : Int)]) → H' a = some (HO.tup [V.int (b : Int), V.int (n : Int)])) : NumsAt H' rs ns :=
  ⟨h.1, fun i b n e => by
    obtain ⟨a, h1, h2⟩ := h.2 i b n e
    exact ⟨a, h1, s _ _ _ h2⟩⟩
theorem c_ticks_of {f : Addr} {fd : FuncData} (T : Txt K mg) (F : Fun K "ticks_of" "ticks_of" s_ticks_of f fd) (hm : mg "ticks_of" = some (.ref f)) (C__read_numbers : CallOk P w K mg base "_read_numbers" 5 ["text"] (sp__read_numbers C_ParseError)) (C__worths : CallOk P w K mg base "_worths" 1 ["many", "has_days"] sp__worths) (R_ParseError : ErrOk P w K mg base "ParseError" "spot" C_ParseError) : CallOk P w K mg base "ticks_of" 6 ["text"] (sp_ticks_of C_ParseError) := by
  refine ⟨f, fd, hm, F.kp, F.binds (ps := ["text"]) (fun _ _ _ _ _ _ us hl => match us, hl with | [_], _ => rfl), F.okX sc_ticks_of (fun vs H Q E h => ?_) (fun cdv A outer s H vs Q E hr h => ⟨_, (pss_cons (ps_if (pt_not (pt_truG (pe_callB call_isiG (by rfl) T.n_isinstance (by decide +kernel) (pa_cons (pv 0) (pa_cons (pe_bltn (v := .ty "str") (by rfl) T.n_str (by decide +kernel) rfl) pa_nil))))) (pss_one ps_never) pss_nil)
      (pss_cons (ps_asg (pe_cc C__read_numbers (passes_call (takes_of rfl rfl rfl rfl) (fun _ _ _ _ h => h)) (hr.mono (by decide)) (pa_cons (pv 0) pa_nil)) (pg_tup rfl (pgs_cons (pg_name (i := 1) sc_ticks_of.nd rfl (Or.inl rfl)) (pgs_cons (pg_name (i := 2) sc_ticks_of.nd rfl (Or.inl rfl)) pgs_nil))))
      (pss_cons (ps_for (passes_of rfl) rfl (pi_enum (by rfl) T.n_enumerate (pa_cons (pe_slice sl_G (pv 1) (po_some pe_int) po_none) pa_nil)) (pg_tup rfl (pgs_cons (pg_name (i := 3) sc_ticks_of.nd rfl (Or.inl rfl)) (pgs_cons (pg_tup rfl (pgs_cons (pg_name (i := 4) sc_ticks_of.nd rfl (Or.inl rfl)) (pgs_cons (pg_name (i := 5) sc_ticks_of.nd rfl (Or.inl rfl)) pgs_nil))) pgs_nil))) (pss_one (ps_if (pt_cmpR op_geG (pv 5) (pe_ifExp (PW.pt (pw_and (pt_truG (pv 2)) (pw_and1 (pt_cmpR (op_eqG hr.units) (pv 3) pe_int (nomark _))))) pe_int pe_int) (nomark _)) (pss_one (ps_raiseC R_ParseError (hr.mono (by decide)) (takes_of rfl rfl rfl rfl) (pa_cons (pv 4) pa_nil))) pss_nil)))
      (pss_cons (ps_set (i := 6) sc_ticks_of.nd rfl (Or.inl rfl) (pe_c0 C__worths (hr.mono (by decide)) (pa_cons (pe_callB call_lenG (by rfl) T.n_len (by decide +kernel) (pa_cons (pv 1) pa_nil)) (pa_cons (pv 2) pa_nil))))
      (pss_cons (ps_set (i := 7) sc_ticks_of.nd rfl (Or.inl rfl) (pe_callB (cr_sum rfl) (by rfl) T.n_sum (by decide +kernel) (pa_cons (pe_lc (own := [("worth", 8), ("_", 9), ("number", 5)]) (g := (gTup K 2 (gCons (gName 8) (gCons (gTup K 2 (gCons (gName 9) (gCons (gName 5) gNil))) gNil)))) rfl sc_ticks_of.nd (pi_zipG (k1 := false) (k2 := true) (by rfl) T.n_zip (pa_cons (pv 6) (pa_cons (pv 1) pa_nil))) (blkOk_by (own := [("worth", 8), ("_", 9), ("number", 5)]) (N := ["text", "numbers", "has_days", "place", "begin", "number", "worths", "total", "worth", "_"]) (sc := defScope s_ticks_of) (by decide +kernel)) (fun _ _ _ _ _ => (pg_tup rfl (pgs_cons (pg_name (i := 8) sc_ticks_of.nd rfl (Or.inl rfl)) (pgs_cons (pg_tup rfl (pgs_cons (pg_name (i := 9) sc_ticks_of.nd rfl (Or.inl rfl)) (pgs_cons (pg_name (i := 5) sc_ticks_of.nd rfl (Or.inl rfl)) pgs_nil))) pgs_nil)))) (fun _ _ _ _ _ => pts_nil) (fun _ _ _ _ _ => (pe_op op_mulG (pv 8) (pv 5)))) pa_nil)))
      (pss_cons (ps_if (pt_cmpR op_gtG (pv 7) (pe_gI T.g_MAX_TICK) (nomark _)) (pss_one (ps_raiseC R_ParseError (hr.mono (by decide)) (takes_of rfl rfl rfl rfl) (pa_cons (pe_callB call_lenG (by rfl) T.n_len (by decide +kernel) (pa_cons (pv 0) pa_nil)) pa_nil))) pss_nil)
      (pss_one (ps_ret (pv 7))))))))), ?_⟩)⟩
  · revert h
    unfold sp_ticks_of
    split <;> intro h <;> first | rfl | exact False.elim h
  · unfold sp_ticks_of at h
    split at h
    · walk_at "wp"
      rename_i x
      simp only [sp__read_numbers]
      obtain ⟨hx, q1, q2⟩ := h
      refine ⟨hx, fun e he => ?_, fun ns hns H1 p l rs sm hp1 hpt hl hn => ?_⟩
      · exact q1 e (by unfold ticksR; rw [he])
      · unfold ticksR at q1 q2
        rw [hns] at q1 q2
        dsimp only at q1 q2
        refine gTup_of hpt rfl ?_
        walk_at "wp"
        refine .inl ⟨rs, SqL.of hl, fun d hd => ?_⟩
        rw [cutV_tail]
        refine ⟨d, _, rfl, SqL.of upd_same, ?_⟩
        have hld : l ≠ d := ne_of_none hl hd
        have hrl := hn.1
        refine Loop.by (walk_enum (xs := rs.tail)) (fun i σ H' => ∃ s3 s4 s5, σ = [some (V.str x), some (V.ref l), some (V.bl (hasD (tl x))), s3, s4, s5, none, none, none, none] ∧ Same H H' ∧ H' l = some (.lst rs) ∧ NumsAt H' rs ns ∧
          H' d = some (.lst rs.tail) ∧ badN (hasD (tl x)) i (ns.tail.drop i) = badN (hasD (tl x)) 0 ns.tail)
          ⟨none, none, none, rfl, sm.trans (sameI hd), (by rw [upd_ne hld]; exact hl), hn.mono (fun a b n e => by rw [upd_ne (ne_of_none e hd)]; exact e), upd_same, rfl⟩
          (fun i σ H' _ h => by obtain ⟨_, _, _, _, _, _, _, h, _⟩ := h; exact SqL.of h) ?_ ?_
        · rintro i y σ H1' H' hi ⟨s3, s4, s5, rfl, sm1, hl1, hn1, hd1, hb⟩ ⟨T, y1, y2, rfl, hT, rfl, e1, e2⟩
          cases e1
          have e2' : rs[i + 1]? = some y2 := by
            rw [← e2]
            exact List.getElem?_tail.symm
          have hi2 : i < ns.tail.length := by
            rw [List.length_tail] at hi ⊢
            omega
          obtain ⟨b, n, hbn⟩ : ∃ b n, ns.tail[i]? = some (b, n) := ⟨ns.tail[i].1, ns.tail[i].2, List.getElem?_eq_getElem hi2⟩
          have hbn' : ns[i + 1]? = some (b, n) := by rw [← hbn, List.getElem?_tail]
          obtain ⟨a, ha1, ha2⟩ := hn1.2 _ _ _ hbn'
          have ey : y2 = V.ref a := Option.some.inj (e2'.symm.trans ha1)
          subst ey
          have haT : a ≠ T := ne_of_none ha2 hT
          refine gTup_of upd_same rfl ?_
          walk_at "wp"
          refine gTup_of (by rw [upd_ne haT]; exact ha2) rfl ?_
          walk_at "wp"
          have hdr : ns.tail.drop i = (b, n) :: ns.tail.drop (i + 1) := by
            obtain ⟨q, e⟩ := List.getElem?_eq_some_iff.mp hbn
            rw [List.drop_eq_getElem_cons q, e]
          rw [hdr, badN] at hb
          have bad : (if hasD (tl x) = true ∧ i = 0 then 24 else 60) ≤ n → rMk C_ParseError (Str.ofString "spot") [V.int b] (upd H1' T (HO.tup [V.int (i : Nat), V.ref a])) fun cls d H' => E cls d H' := fun hh => by
            rw [if_pos hh] at hb
            exact rMk_of ((q1 b (by rw [← hb])).mono (sm1.trans (sameI hT)))
          have good : ¬ (if hasD (tl x) = true ∧ i = 0 then 24 else 60) ≤ n → ∃ s3 s4 s5, (some (V.int (i : Nat)) = s3 ∧ some (V.int (b : Nat)) = s4 ∧ some (V.int (n : Nat)) = s5) ∧
              Same H (upd H1' T (HO.tup [V.int (i : Nat), V.ref a])) ∧ upd H1' T (HO.tup [V.int (i : Nat), V.ref a]) l = some (HO.lst rs) ∧ NumsAt (upd H1' T (HO.tup [V.int (i : Nat), V.ref a])) rs ns ∧
              upd H1' T (HO.tup [V.int (i : Nat), V.ref a]) d = some (HO.lst rs.tail) ∧ badN (hasD (tl x)) (i + 1) (List.drop (i + 1) ns.tail) = badN (hasD (tl x)) 0 ns.tail := fun hh => by
            rw [if_neg hh] at hb
            exact ⟨_, _, _, ⟨rfl, rfl, rfl⟩, sm1.trans (sameI hT), (by rw [upd_ne (ne_of_none hl1 hT)]; exact hl1), hn1.mono (fun a b n e => by rw [upd_ne (ne_of_none e hT)]; exact e), (by rw [upd_ne (ne_of_none hd1 hT)]; exact hd1), hb⟩
          by_cases hD : hasD (tl x) = true
          · rw [if_pos hD]
            by_cases hi0 : i = 0
            · rw [if_pos (show hasD (tl x) = true ∧ i = 0 from ⟨hD, hi0⟩)] at bad good
              rw [if_pos (decide_eq_true (by omega))]
              by_cases hc : 24 ≤ n
              · rw [if_pos (decide_eq_true (by omega))]; exact bad hc
              · rw [if_neg (by intro z; have := of_decide_eq_true z; omega)]; exact good hc
            · rw [if_neg (show ¬ (hasD (tl x) = true ∧ i = 0) from fun z => hi0 z.2)] at bad good
              rw [if_neg (by intro z; have := of_decide_eq_true z; omega)]
              by_cases hc : 60 ≤ n
              · rw [if_pos (decide_eq_true (by omega))]; exact bad hc
              · rw [if_neg (by intro z; have := of_decide_eq_true z; omega)]; exact good hc
          · rw [if_neg hD]
            rw [if_neg (show ¬ (hasD (tl x) = true ∧ i = 0) from fun z => hD z.1)] at bad good
            by_cases hc : 60 ≤ n
            · rw [if_pos (decide_eq_true (by omega))]; exact bad hc
            · rw [if_neg (by intro z; have := of_decide_eq_true z; omega)]; exact good hc
        · rintro σ H1' ⟨s3, s4, s5, rfl, sm1, hl1, hn1, hd1, hb⟩
          rw [List.drop_eq_nil_of_le (by rw [List.length_tail, List.length_tail]; omega)] at hb
          have hb2 : badN (hasD (tl x)) 0 ns.tail = none := hb.symm
          rw [hb2] at q1 q2
          dsimp only at q1 q2
          walk_at "wp"
          simp only [sp__worths]
          refine ⟨rs, .inl (SqL.of hl1), fun pw hpw => ?_⟩
          rw [hrl]
          walk_at "wp"
          have hlp : l ≠ pw := ne_of_none hl1 hpw
          have ew : (if hasD (tl x) = true then [86400, 3600, 60, 1] else if (ns.length : Int) = 3 then [3600, 60, 1] else [60, 1]) = (worthsL ns.length (hasD (tl x))).map (fun n : Nat => (n : Int)) := by
            unfold worthsL
            split
            · rfl
            · by_cases h3 : ns.length = 3
              · rw [if_pos h3, if_pos (by omega)]; rfl
              · rw [if_neg h3, if_neg (by omega)]; rfl
          rw [ew]
          generalize hW : worthsL ns.length (hasD (tl x)) = W at q1 q2
          refine ⟨pw, l, _, rs, ⟨rfl, rfl⟩, isTup_of upd_same, isLst_of (by rw [upd_ne hlp]; exact hl1), fun D hD => ?_⟩
          have hW4 : W.length ≤ 4 := by
            rw [← hW]
            unfold worthsL
            split
            · decide
            · split <;> decide
          have hWs : ∀ w, w ∈ W → w < 100000 := by
            rw [← hW]
            unfold worthsL
            split
            · decide
            · split <;> decide
          have hlD : l ≠ D := ne_of_none (by rw [upd_ne hlp]; exact hl1) hD
          have hpD : pw ≠ D := ne_of_none upd_same hD
          have hD0 : H D = none := by
            rw [upd_ne (Ne.symm hpD)] at hD
            exact sm1.free hD
          have sm2 : Same H (upd H1' pw (HO.tup (List.map V.int (List.map (fun n : Nat => (n : Int)) W)))) := sm1.trans (sameI hpw)
          refine LoopC.by (walk_zipG (xs := (W.map (fun n : Nat => (n : Int))).map V.int) (ys := rs) rfl) (fun i H' => Same H H' ∧ H' l = some (.lst rs) ∧ NumsAt H' rs ns ∧
            H' pw = some (.tup ((W.map (fun n : Nat => (n : Int))).map V.int)) ∧ H' D = some (.lst (((prods W ns).take i).map V.int)))
            ⟨sm2.trans (sameI hD), (by rw [upd_ne hlD, upd_ne hlp]; exact hl1), hn1.mono (fun a b n e => ?_), (by rw [upd_ne hpD]; exact upd_same), upd_same⟩
            (fun i H' _ h => ⟨isTup_of h.2.2.2.1, isLst_of h.2.1⟩) ?_ ?_
          · have h1 : upd H1' pw (HO.tup (List.map V.int (List.map (fun n : Nat => (n : Int)) W))) a = some (HO.tup [V.int b, V.int n]) := by
              rw [upd_ne (ne_of_none e hpw)]; exact e
            rw [upd_ne (ne_of_none h1 hD)]
            exact h1
          · rintro i y H2 H3 hi ⟨sm3, hl3, hn3, hp3, hD3⟩ ⟨T, y1, y2, rfl, hT, rfl, e1, e2⟩
            rw [List.length_map, List.length_map, hrl] at hi
            have hiW : i < W.length := by omega
            have hin : i < ns.length := by omega
            obtain ⟨b, n, hbn⟩ : ∃ b n, ns[i]? = some (b, n) := ⟨ns[i].1, ns[i].2, List.getElem?_eq_getElem hin⟩
            obtain ⟨a, ha1, ha2⟩ := hn3.2 _ _ _ hbn
            have ey2 : y2 = V.ref a := Option.some.inj ((show rs[i]? = some y2 from e2).symm.trans ha1)
            subst ey2
            have hwi : W[i]? = some W[i] := List.getElem?_eq_getElem hiW
            have ey1 : y1 = V.int ((W[i] : Nat) : Int) := by
              have q : ((W.map (fun n : Nat => (n : Int))).map V.int)[i]? = some y1 := e1
              rw [List.getElem?_map, List.getElem?_map, hwi] at q
              exact (Option.some.inj q).symm
            subst ey1
            have haT : a ≠ T := ne_of_none ha2 hT
            refine gTup_of upd_same rfl ?_
            walk_at "wp"
            refine gTup_of (by rw [upd_ne haT]; exact ha2) rfl ?_
            walk_at "wp"
            refine ⟨.inl (.inl ⟨by omega, ?_⟩), ?_⟩
            · have := hWs W[i] (List.getElem_mem hiW)
              omega
            · have hpr := prods_at W ns i b n W[i] hwi hbn
              have hlt : i < (prods W ns).length := by rw [prods_len]; omega
              refine ⟨_, (by rw [upd_ne (ne_of_none hD3 hT)]; exact hD3), ?_, same_mut (sm3.trans (sameI hT)) hD0, ?_, ?_, ?_, ?_⟩
              · rw [List.length_map, List.length_take]
                exact Nat.lt_of_lt_of_le (show _ < 100000 by omega) (by decide)
              · rw [upd_ne hlD, upd_ne (ne_of_none hl3 hT)]; exact hl3
              · refine hn3.mono fun a b n e => ?_
                have h1 : a ≠ D := ne_of e hD3 (by intro z; cases z)
                rw [upd_ne h1, upd_ne (ne_of_none e hT)]
                exact e
              · rw [upd_ne hpD, upd_ne (ne_of_none hp3 hT)]; exact hp3
              · rw [upd_same, List.take_add_one, hpr, List.map_append]
                rfl
          · rintro H2 ⟨sm3, hl3, hn3, hp3, hD3⟩
            rw [List.take_of_length_le (by rw [prods_len, List.length_map, List.length_map, hrl]; exact Nat.le_refl _)] at hD3
            refine ⟨D, _, rfl, SqL.of hD3, ?_⟩
            rw [prods_sum]
            dsimp only
            by_cases hbig : 1000000 < sumW W ns
            · rw [if_pos hbig] at q1
              rw [if_pos (decide_eq_true (by omega))]
              refine ⟨line_of (by omega), ?_⟩
              rw [len_tl]
              exact rMk_of ((q1 _ rfl).mono sm3)
            · rw [if_neg hbig] at q2
              rw [if_neg (by intro z; have := of_decide_eq_true z; omega)]
              exact q2 _ rfl _ sm3
    · exact h.elim
end
end K00
namespace K00
open PySem PySem.Spec PyProof.Rows L2 G
local macro_rules | `(tactic| walk_at "wp") => `(tactic| simp only [cx_K, tM1, CwR.tReplC, rNewStrs, gSub, tFor_L, tLc_L, iEnum, iZipG, iList, iTup, iStr, iRng1, iRng2, wipe, tYes, tRet, tChain, tC, tVar, tOp, tAsg, tSeq, tIfS, tNext, tDrop, tCB, tCall, tCons, tNil, tPart, tNoPart, tSl, tTest, tAnd, tOr, tNot, tTruG, tAndV, tOrV, tNotV, tIf, tUn, rU, gName, gCons_c, gNil_c, S_cat, S_nil, len_S, List.length_append, dig2_len, toS_nat, lit_colon, lit_dash, lit_e, tTup, tLst, tPar, tRaiseC, rAddG, rSubG, rModG, rDivG, rPowG, rLtG, rLeG, rGtG, rGeG, rIxG, rSlG, rLenG, rIntG, rAbsG, rMaxG, rMinG, rStrG, rDivmodG, rMulG, rEqG, rNeG, rInG, L2.start, List.length_cons, List.length_nil, List.map_cons, List.map_nil, List.replicate, List.cons_append, List.nil_append, List.append_nil, List.getElem?_cons_zero, List.getElem?_cons_succ, Option.some.injEq, exists_eq_left', exists_eq_left, exists_eq', V.int.injEq, V.bl.injEq, V.str.injEq, V.ref.injEq, List.cons.injEq, List.set_cons_zero, List.set_cons_succ, Nat.sub_self, Nat.add_sub_cancel, Nat.zero_add, Nat.reduceSub, Nat.reduceAdd, Bool.false_eq_true, reduceIte, exN_iff, dec1, and_true, true_and, isi_ii, isi_ib, isi_ss, Bool.not_true, Bool.not_false, tNever, tFmt02, tFmtG, tJs, List.nil_append, Int.natAbs_natCast])
section
variable {P : Program} {w : World} {K : PySem.W.Frag} {mg : Str → Option Value} {base : Heap} {C_ParseError : Addr}

def DiceAt (H : Hp) (d : Addr) : Prop := ∃ x y z : Int, H d = some (.lst [.int x, .int y, .int z])
/-- only the dice have moved, and new things may stand -/
def Moved (d : Addr) (H H' : Hp) : Prop := DiceAt H' d ∧ ∀ b o, b ≠ d → H b = some o → H' b = some o
def sp__law_dice (K : PySem.W.Frag) : Sp := fun vs H Q _ => match vs with
  | [.ref a, .int i] => 0 ≤ i ∧ i < 4 ∧ ∃ xs : List Int, SqL K H a (xs.map V.int) ∧ ∀ p H', H p = none → DiceAt H' p → Same H H' → Q (.ref p) H'
  | _ => False
theorem c__law_dice {f : Addr} {fd : FuncData} (T : Txt K mg) (F : Fun K "_law_dice" "_law_dice" s__law_dice f fd) (hm : mg "_law_dice" = some (.ref f))  : CallOk P w K mg base "_law_dice" 1 ["script", "spot"] (sp__law_dice K) := by
  refine ⟨f, fd, hm, F.kp, F.binds (ps := ["script", "spot"]) (fun _ _ _ _ _ _ us hl => match us, hl with | [_, _], _ => rfl), F.okX sc__law_dice (fun vs H Q E h => ?_) (fun cdv A outer s H vs Q E hr h => ⟨_, (pss_cons (ps_set (i := 2) sc__law_dice.nd rfl (Or.inl rfl) (pe_ifExp (pt_cmpR op_ltG (pv 1) (pe_callB call_lenG (by rfl) T.n_len (by decide +kernel) (pa_cons (pv 0) pa_nil)) (nomark _)) (pe_callTy call_intG (by rfl) T.n_int (by decide +kernel) (pa_cons (pe_ix ix_G (pv 0) (pv 1) (fun _ _ => rfl)) pa_nil)) (pe_op op_addG (pe_op op_mulG pe_int (pv 1)) pe_int)))
      (pss_cons (ps_set (i := 3) sc__law_dice.nd rfl (Or.inl rfl) (pe_op op_modG (pe_callB (call_maxG rfl) (by rfl) T.n_max (by decide +kernel) (pa_cons pe_int (pa_cons (pe_op op_subG (pe_callB call_absG (by rfl) T.n_abs (by decide +kernel) (pa_cons (pv 2) pa_nil)) (pe_op op_powG pe_int pe_int)) pa_nil))) (pe_op op_mulG (pe_op op_powG pe_int pe_int) (pe_op op_powG pe_int pe_int))))
      (pss_one (ps_ret (pe_lst (pa_cons (pv 3) (pa_cons (pe_op op_addG (pe_op op_addG (pe_op op_addG (pe_op op_mulG (pe_op op_modG (pe_callB call_absG (by rfl) T.n_abs (by decide +kernel) (pa_cons (pv 2) pa_nil)) pe_int) pe_int) (pe_op op_mulG pe_int (pv 1))) (pe_op op_mulG pe_int (pe_callTy call_intG (by rfl) T.n_int (by decide +kernel) (pa_cons (pe_cmpR op_ltG (pv 2) pe_int (nomark _)) pa_nil)))) pe_int) (pa_cons pe_int pa_nil)))))))), ?_⟩)⟩
  · revert h
    unfold sp__law_dice
    split <;> intro h <;> first | rfl | exact False.elim h
  · unfold sp__law_dice at h
    split at h
    · walk_at "wp"
      rename_i a i
      obtain ⟨h0, h1, xs, hx, q⟩ := h
      have br : ∀ c : Int, (CMul ((if c < 0 then -c else c) % 1152921504606846697) 59 ∨ CMulW ((if c < 0 then -c else c) % 1152921504606846697) 59) ∧ (CMul 821 i ∨ CMulW 821 i) ∧ (CMul 37 (if decide (c < 0) = true then 1 else 0) ∨ CMulW 37 (if decide (c < 0) = true then 1 else 0)) ∧
          3 ≤ sizeLine ∧ ∀ (p : Addr), H p = none → Q (V.ref p) (upd H p (HO.lst [V.int ((if (if c < 0 then -c else c) - 10 ^ Int.toNat 16 > 0 then (if c < 0 then -c else c) - 10 ^ Int.toNat 16 else 0) % (10 ^ Int.toNat 60 * 10 ^ Int.toNat 60)),
            V.int (((if c < 0 then -c else c) % 1152921504606846697 * 59 + 821 * i + 37 * if decide (c < 0) = true then 1 else 0) + 5), V.int 0])) := fun c =>
        ⟨.inl (.inr ⟨by decide, by decide⟩), .inl (.inl ⟨by decide, by decide⟩), .inl (.inl ⟨by decide, by decide⟩), by decide, fun p hp => q p _ hp ⟨_, _, _, upd_same⟩ (sameI hp)⟩
      have pw : CPow 10 16 ∧ CPow 10 60 := ⟨by unfold CPow; decide, by unfold CPow; decide⟩
      have mu : CMul (10 ^ Int.toNat 60) (10 ^ Int.toNat 60) ∨ CMulW (10 ^ Int.toNat 60) (10 ^ Int.toNat 60) := .inr (by unfold CMulW; decide +kernel)
      refine ⟨_, .inl hx, ?_⟩
      rw [List.length_map]
      by_cases hi : i < xs.length
      · rw [if_pos (decide_eq_true hi)]
        obtain ⟨j, rfl⟩ := Int.eq_ofNat_of_zero_le h0
        have hj : j < xs.length := by omega
        refine ⟨_, V.int xs[j], .inl hx, ?_, ?_⟩
        · exact atI_nat (by rw [List.getElem?_map, List.getElem?_eq_getElem hj]; rfl)
        · exact ⟨pw.1, pw.2, pw.2, mu, by decide +kernel, by decide, br _⟩
      · rw [if_neg (by intro z; exact hi (of_decide_eq_true z))]
        exact ⟨.inl (.inl ⟨by decide, by decide⟩), pw.1, pw.2, pw.2, mu, by decide +kernel, by decide, br _⟩
    · exact h.elim
def sp__law_roll : Sp := fun vs H Q _ => match vs with
  | [.ref d, .int t] => 0 < t ∧ t.natAbs.log2 < 1000 ∧ DiceAt H d ∧ ∀ r H', 0 ≤ r → r < t → Moved d H H' → Q (.int r) H'
  | _ => False
theorem c__law_roll {f : Addr} {fd : FuncData} (T : Txt K mg) (F : Fun K "_law_roll" "_law_roll" s__law_roll f fd) (hm : mg "_law_roll" = some (.ref f))  : CallOk P w K mg base "_law_roll" 1 ["dice", "total"] sp__law_roll := by
  refine ⟨f, fd, hm, F.kp, F.binds (ps := ["dice", "total"]) (fun _ _ _ _ _ _ us hl => match us, hl with | [_, _], _ => rfl), F.okX sc__law_roll (fun vs H Q E h => ?_) (fun cdv A outer s H vs Q E hr h => ⟨_, (pss_cons (ps_if (pt_cmpR op_gtG (pe_ix ix_G (pv 0) pe_int (fun _ _ => rfl)) pe_int (nomark _)) (pss_cons (ps_set (i := 2) sc__law_roll.nd rfl (Or.inl rfl) (pe_op op_modG (pe_callTy call_intG (by rfl) T.n_int (by decide +kernel) (pa_cons (pe_ix ix_G (pv 0) pe_int (fun _ _ => rfl)) pa_nil)) (pv 1)))
      (pss_cons (ps_asg (pe_op op_divG (pe_ix ix_G (pv 0) pe_int (fun _ _ => rfl)) (pv 1)) (pg_sub (pv 0) pe_int set_list))
      (pss_one (ps_ret (pv 2))))) pss_nil)
      (pss_cons (ps_asg (pe_op op_addG (pe_ix ix_G (pv 0) pe_int (fun _ _ => rfl)) pe_int) (pg_sub (pv 0) pe_int set_list))
      (pss_cons (ps_set (i := 3) sc__law_roll.nd rfl (Or.inl rfl) (pe_op op_modG (pe_callTy call_intG (by rfl) T.n_int (by decide +kernel) (pa_cons (pe_op op_addG (pe_ix ix_G (pv 0) pe_int (fun _ _ => rfl)) (pe_op op_mulG pe_int (pe_ix ix_G (pv 0) pe_int (fun _ _ => rfl)))) pa_nil)) pe_int))
      (pss_cons (ps_set (i := 4) sc__law_roll.nd rfl (Or.inl rfl) (pe_op op_addG (pe_op op_mulG (pe_op op_modG (pe_callTy call_intG (by rfl) T.n_int (by decide +kernel) (pa_cons (pe_op op_addG (pe_op op_mulG (pv 3) (pv 3)) (pe_op op_mulG pe_int (pe_ix ix_G (pv 0) pe_int (fun _ _ => rfl)))) pa_nil)) pe_int) pe_int) (pv 3)))
      (pss_one (ps_ret (pe_op op_modG (pe_callTy call_intG (by rfl) T.n_int (by decide +kernel) (pa_cons (pe_op op_divG (pv 4) pe_int) pa_nil)) (pv 1)))))))), ?_⟩)⟩
  · revert h
    unfold sp__law_roll
    split <;> intro h <;> first | rfl | exact False.elim h
  · unfold sp__law_roll at h
    split at h
    · walk_at "wp"
      rename_i d t
      obtain ⟨h0, h1, ⟨x, y, z, hd⟩, q⟩ := h
      refine ⟨[V.int x, V.int y, V.int z], V.int x, .inl (SqL.of hd), rfl, ?_⟩
      walk_at "wp"
      have hcd : ∀ j : Int, CDivW j t := fun j => ⟨h0, by omega⟩
      by_cases hx : 0 < x
      · rw [if_pos (decide_eq_true hx)]
        refine ⟨[V.int x, V.int y, V.int z], V.int x, .inl (SqL.of hd), rfl, h0, [V.int x, V.int y, V.int z], V.int x, .inl (SqL.of hd), rfl, hcd _, ?_⟩
        refine rSet_of hd (j := 0) rfl ?_
        walk_at "wp"
        exact q _ _ (Int.emod_nonneg _ (by omega)) (Int.emod_lt_of_pos _ h0) ⟨⟨_, _, _, upd_same⟩, fun b o hb e => by rw [upd_ne hb]; exact e⟩
      · rw [if_neg (by intro z; exact hx (of_decide_eq_true z))]
        refine ⟨[V.int x, V.int y, V.int z], V.int z, .inl (SqL.of hd), rfl, ?_⟩
        walk_at "wp"
        refine rSet_of hd (j := 2) rfl ?_
        walk_at "wp"
        have hd2 : upd H d (HO.lst [V.int x, V.int y, V.int (z + 1)]) d = some (HO.lst [V.int x, V.int y, V.int (z + 1)]) := upd_same
        have b1 := Int.emod_lt_of_pos (y + 67867967 * (z + 1)) (show (0 : Int) < 2305843009213693561 by decide)
        have b2 := Int.emod_nonneg (y + 67867967 * (z + 1)) (show (2305843009213693561 : Int) ≠ 0 by decide)
        refine ⟨[V.int x, V.int y, V.int (z + 1)], V.int y, .inl (SqL.of hd2), rfl, [V.int x, V.int y, V.int (z + 1)], V.int (z + 1), .inl (SqL.of hd2), rfl, ?_⟩
        walk_at "wp"
        refine ⟨.inl (.inl ⟨by decide, by decide⟩), by decide, .inl (.inl ⟨by omega, by omega⟩), [V.int x, V.int y, V.int (z + 1)], V.int (z + 1), .inl (SqL.of hd2), rfl, ?_⟩
        walk_at "wp"
        refine ⟨.inl (.inl ⟨by decide, by decide⟩), by decide, .inl (.inr ⟨by decide, by decide⟩), ⟨by decide, by decide +kernel⟩, h0, ?_⟩
        exact q _ _ (Int.emod_nonneg _ (by omega)) (Int.emod_lt_of_pos _ h0) ⟨⟨_, _, _, hd2⟩, fun b o hb e => by rw [upd_ne hb]; exact e⟩
    · exact h.elim
def sp__law_pick (K : PySem.W.Frag) : Sp := fun vs H Q _ => match vs with
  | [.ref d, .ref l] => DiceAt H d ∧ l ≠ d ∧ ∃ xs : List V, H l = some (.lst xs) ∧ xs ≠ [] ∧ xs.length < 1000 ∧ ∀ (i : Nat) (v : V) (H' : Hp), xs[i]? = some v → Moved d H H' → Q v H'
  | _ => False
theorem c__law_pick {f : Addr} {fd : FuncData} (T : Txt K mg) (F : Fun K "_law_pick" "_law_pick" s__law_pick f fd) (hm : mg "_law_pick" = some (.ref f)) (C__law_roll : CallOk P w K mg base "_law_roll" 1 ["dice", "total"] sp__law_roll) : CallOk P w K mg base "_law_pick" 2 ["dice", "items"] (sp__law_pick K) := by
  refine ⟨f, fd, hm, F.kp, F.binds (ps := ["dice", "items"]) (fun _ _ _ _ _ _ us hl => match us, hl with | [_, _], _ => rfl), F.okX sc__law_pick (fun vs H Q E h => ?_) (fun cdv A outer s H vs Q E hr h => ⟨_, (pss_one (ps_ret (pe_ix ix_G (pv 1) (pe_c0 C__law_roll (hr.mono (by decide)) (pa_cons (pv 0) (pa_cons (pe_callB call_lenG (by rfl) T.n_len (by decide +kernel) (pa_cons (pv 1) pa_nil)) pa_nil))) (fun _ _ => rfl)))), ?_⟩)⟩
  · revert h
    unfold sp__law_pick
    split <;> intro h <;> first | rfl | exact False.elim h
  · unfold sp__law_pick at h
    split at h
    · walk_at "wp"
      rename_i d l
      obtain ⟨hd, hld, xs, hl, hne, hlen, q⟩ := h
      have hpos : 0 < xs.length := List.length_pos_iff.mpr hne
      refine ⟨xs, .inl (SqL.of hl), ?_⟩
      simp only [sp__law_roll]
      refine ⟨by omega, ?_, hd, fun r H' r0 r1 mv => ?_⟩
      · rw [Int.natAbs_natCast]
        have : xs.length.log2 < 10 := (Nat.log2_lt (by omega)).mpr (by omega)
        omega
      · obtain ⟨j, rfl⟩ := Int.eq_ofNat_of_zero_le r0
        have hj : j < xs.length := by omega
        have hg : xs[j]? = some xs[j] := List.getElem?_eq_getElem hj
        exact ⟨xs, _, .inl (SqL.of (mv.2 _ _ hld hl)), atI_nat hg, q _ _ _ hg mv⟩
    · exact h.elim
def zeros (w n : Nat) : List Nat := List.replicate (w - (numL n).length) 48 ++ numL n
def sp__law_digits : Sp := fun vs H Q _ => match vs with
  | [.int n, .int w] => 0 ≤ n ∧ n < 10 ^ 20 ∧ 0 ≤ w ∧ w < 20 ∧ Q (.str (S (zeros w.toNat n.toNat))) H
  | _ => False
theorem c__law_digits {f : Addr} {fd : FuncData} (T : Txt K mg) (F : Fun K "_law_digits" "_law_digits" s__law_digits f fd) (hm : mg "_law_digits" = some (.ref f))  : CallOk P w K mg base "_law_digits" 1 ["number", "wide"] sp__law_digits := by
  refine ⟨f, fd, hm, F.kp, F.binds (ps := ["number", "wide"]) (fun _ _ _ _ _ _ us hl => match us, hl with | [_, _], _ => rfl), F.okX sc__law_digits (fun vs H Q E h => ?_) (fun cdv A outer s H vs Q E hr h => ⟨_, (pss_one (ps_ret (pe_op op_addG (pe_op op_mulG pe_str (pe_callB (call_maxG rfl) (by rfl) T.n_max (by decide +kernel) (pa_cons pe_int (pa_cons (pe_op op_subG (pv 1) (pe_callB call_lenG (by rfl) T.n_len (by decide +kernel) (pa_cons (pe_callTy call_strG (by rfl) T.n_str (by decide +kernel) (pa_cons (pv 0) pa_nil)) pa_nil))) pa_nil)))) (pe_callTy call_strG (by rfl) T.n_str (by decide +kernel) (pa_cons (pv 0) pa_nil))))), ?_⟩)⟩
  · revert h
    unfold sp__law_digits
    split <;> intro h <;> first | rfl | exact False.elim h
  · unfold sp__law_digits at h
    split at h
    · walk_at "wp"
      rename_i n w
      obtain ⟨h0, h1, h2, h3, q⟩ := h
      obtain ⟨n, rfl⟩ := Int.eq_ofNat_of_zero_le h0
      obtain ⟨w, rfl⟩ := Int.eq_ofNat_of_zero_le h2
      have hl := numL_len (n := n) (k := 20) (by omega) (by decide)
      have hp := numL_pos n
      have hlog : n.log2 < 1920 := by
        by_cases hz : n = 0
        · subst hz; decide
        · have := (Nat.log2_lt hz (k := 100)).mpr (by omega)
          omega
      rw [toS_nat, len_S]
      have e0 : (if (w : Int) - ((numL n).length : Int) > 0 then (w : Int) - ((numL n).length : Int) else 0) = ((w - (numL n).length : Nat) : Int) := by
        by_cases hw : (numL n).length < w
        · rw [if_pos (by omega)]; omega
        · rw [if_neg (by omega)]; omega
      rw [e0, mul0_of rfl (by omega), S_cat, len_S]
      refine ⟨hlog, line_of (by omega), PyProof.Rows.mulOk_of 1 20 (by decide) (by omega) (by omega) (by decide) (by decide), hlog, line_of (by rw [List.length_replicate]; omega), ?_⟩
      rw [Int.toNat_natCast, Int.toNat_natCast] at q
      exact q
    · exact h.elim
end
end K00
namespace K00
open PySem PySem.Spec PyProof.Rows L2 G
local macro_rules | `(tactic| walk_at "st") => `(tactic| simp only [L2.start, cx_K, List.length_cons, List.length_nil, List.map_cons, List.map_nil, List.replicate, List.cons_append, List.nil_append, Nat.sub_self, Nat.add_sub_cancel, Nat.reduceSub, Nat.reduceAdd, Nat.zero_add])
local macro_rules | `(tactic| walk_at "wp") => `(tactic| simp only [↓tV0, ↓gN0, ↓tV1, ↓gN1, ↓tV2, ↓gN2, ↓tV3, ↓gN3, ↓tV4, ↓gN4, ↓tV5, ↓gN5, ↓tV6, ↓gN6, ↓tV7, ↓gN7, ↓tV8, ↓gN8, ↓tV9, ↓gN9, ↓tV10, ↓gN10, ↓tV11, ↓gN11, ↓tV12, ↓gN12, ↓tV13, ↓gN13, ↓w_Ret, ↓w_RetN, ↓w_C, ↓w_Op, ↓w_Un, ↓w_UnI, ↓w_Asg, ↓w_Seq, ↓w_IfS, ↓w_Next, ↓w_Drop, ↓w_CB, ↓w_Call, ↓w_Nil, ↓w_Cons, ↓w_NoPart, ↓w_Part, ↓w_Sl, ↓w_Test, ↓w_And, ↓w_Or, ↓w_Not, ↓w_AndV, ↓w_OrV, ↓w_NotV, ↓w_If, ↓w_Chain, ↓w_TruG, ↓w_TruB, ↓w_TruI, ↓w_TruN, ↓w_Tup, ↓w_Lst, ↓w_Par, ↓w_Sub, ↓w_M1, ↓w_BM, ↓w_ReplC, ↓w_RaiseC, ↓w_Fmt02, ↓w_FmtG, ↓w_FmtS, ↓w_FmtI, ↓o_AddII, ↓o_AddSS, ↓o_AddRR, ↓o_SubII, ↓o_MulII, ↓o_MulSI, ↓o_ModII, ↓o_DivII, ↓o_PowII, ↓o_LtII, ↓o_LtSS, ↓o_LeII, ↓o_LeSS, ↓o_GtII, ↓o_GtSS, ↓o_GeII, ↓o_GeSS, ↓o_EqII, ↓o_EqSS, ↓o_EqBB, ↓o_EqRR, ↓o_NeII, ↓o_NeSS, ↓o_NeBB, ↓o_NeRR, ↓o_InR, ↓o_InS, ↓o_IxS, ↓o_IxR, ↓o_SlS, ↓o_SlR, ↓o_LenS, ↓o_LenR, ↓o_IntI, ↓o_IntB, ↓o_IntS, ↓o_Abs, ↓o_Max, ↓o_Min, ↓o_Str, ↓o_Divmod, ↓x_Bl, ↓x_Int, ↓x_Str, ↓x_Ref, ↓x_StrT, ↓w_For, ↓w_Lc, ↓w_iEnum, ↓w_iZipG, ↓w_iList, ↓w_iTup, ↓w_iStr, ↓w_iR1, ↓w_iR2, cx_K, wipe, tYes, gCons_c, gNil_c, S_cat, S_nil, len_S, List.length_append, dig2_len, toS_nat, lit_colon, lit_dash, lit_e, L2.start, List.length_cons, List.length_nil, List.map_cons, List.map_nil, List.replicate, List.cons_append, List.nil_append, List.append_nil, List.getElem?_cons_zero, List.getElem?_cons_succ, Option.some.injEq, exists_eq_left', exists_eq_left, exists_eq', V.int.injEq, V.bl.injEq, V.str.injEq, V.ref.injEq, List.cons.injEq, List.set_cons_zero, List.set_cons_succ, Nat.sub_self, Nat.add_sub_cancel, Nat.zero_add, Nat.reduceSub, Nat.reduceAdd, Bool.false_eq_true, reduceIte, exN_iff, dec1, and_true, true_and, isi_ii, isi_ib, isi_ss, Bool.not_true, Bool.not_false, tNever, tJs, rNewStrs, Int.natAbs_natCast])
section
variable {P : Program} {w : World} {K : PySem.W.Frag} {mg : Str → Option Value} {base : Heap} {C_ParseError : Addr}

theorem zeros_dig2 : ∀ n : Fin 100, zeros 2 n.val = dig2 n.val := by decide +kernel
theorem zeros_of {n : Nat} (h : n < 100) : zeros 2 n = dig2 n := zeros_dig2 ⟨n, h⟩
def sp__law_written : Sp := fun vs H Q _ => match vs with
  | [.int v] => 0 ≤ v ∧ v ≤ 1000000 ∧ Q (.str (S (textOf v.toNat))) H
  | _ => False
theorem c__law_written {f : Addr} {fd : FuncData} (T : Txt K mg) (F : Fun K "_law_written" "_law_written" s__law_written f fd) (hm : mg "_law_written" = some (.ref f)) (C__law_digits : CallOk P w K mg base "_law_digits" 1 ["number", "wide"] sp__law_digits) : CallOk P w K mg base "_law_written" 2 ["number"] sp__law_written := by
  refine ⟨f, fd, hm, F.kp, F.binds (ps := ["number"]) (fun _ _ _ _ _ _ us hl => match us, hl with | [_], _ => rfl), F.okX sc__law_written (fun vs H Q E h => ?_) (fun cdv A outer s H vs Q E hr h => ⟨_, (pss_cons (ps_par (i := 1) (j := 2) (by rfl) sc__law_written.nd rfl rfl (by decide) rfl rfl (pa_cons (pe_op op_divG (pv 0) pe_int) (pa_cons (pe_op op_modG (pe_callTy call_intG (by rfl) T.n_int (by decide +kernel) (pa_cons (pv 0) pa_nil)) pe_int) pa_nil)) (by rfl))
      (pss_cons (ps_set (i := 3) sc__law_written.nd rfl (Or.inl rfl) (pe_op op_addG (pe_op op_addG (pe_c0 C__law_digits (hr.mono (by decide)) (pa_cons (pe_op op_divG (pv 2) pe_int) (pa_cons pe_int pa_nil))) pe_str) (pe_c0 C__law_digits (hr.mono (by decide)) (pa_cons (pe_op op_divG (pe_op op_modG (pe_callTy call_intG (by rfl) T.n_int (by decide +kernel) (pa_cons (pv 2) pa_nil)) pe_int) pe_int) (pa_cons pe_int pa_nil)))))
      (pss_cons (ps_set (i := 3) sc__law_written.nd rfl (Or.inl rfl) (pe_op op_addG (pe_op op_addG (pv 3) pe_str) (pe_c0 C__law_digits (hr.mono (by decide)) (pa_cons (pe_op op_modG (pe_callTy call_intG (by rfl) T.n_int (by decide +kernel) (pa_cons (pv 2) pa_nil)) pe_int) (pa_cons pe_int pa_nil)))))
      (pss_one (ps_ret (pe_ifExp (pt_cmpR (op_eqG hr.units) (pv 1) pe_int (nomark _)) (pv 3) (pe_op op_addG (pe_op op_addG (pe_callTy call_strG (by rfl) T.n_str (by decide +kernel) (pa_cons (pv 1) pa_nil)) pe_str) (pv 3)))))))), ?_⟩)⟩
  · revert h
    unfold sp__law_written
    split <;> intro h <;> first | rfl | exact False.elim h
  · unfold sp__law_written at h
    split at h
    · walk_at "st"
      simp only [↓sp__law_digits, ↓tV0, ↓gN0, ↓tV1, ↓gN1, ↓tV2, ↓gN2, ↓tV3, ↓gN3, ↓tV4, ↓gN4, ↓tV5, ↓gN5, ↓tV6, ↓gN6, ↓tV7, ↓gN7, ↓tV8, ↓gN8, ↓tV9, ↓gN9, ↓tV10, ↓gN10, ↓tV11, ↓gN11, ↓tV12, ↓gN12, ↓tV13, ↓gN13, ↓w_Ret, ↓w_RetN, ↓w_C, ↓w_Op, ↓w_Un, ↓w_UnI, ↓w_Asg, ↓w_Seq, ↓w_IfS, ↓w_Next, ↓w_Drop, ↓w_CB, ↓w_Call, ↓w_Nil, ↓w_Cons, ↓w_NoPart, ↓w_Part, ↓w_Sl, ↓w_Test, ↓w_And, ↓w_Or, ↓w_Not, ↓w_AndV, ↓w_OrV, ↓w_NotV, ↓w_If, ↓w_Chain, ↓w_TruG, ↓w_TruB, ↓w_TruI, ↓w_TruN, ↓w_Tup, ↓w_Lst, ↓w_Par, ↓w_Sub, ↓w_M1, ↓w_BM, ↓w_ReplC, ↓w_RaiseC, ↓w_Fmt02, ↓w_FmtG, ↓w_FmtS, ↓w_FmtI, ↓o_AddII, ↓o_AddSS, ↓o_AddRR, ↓o_SubII, ↓o_MulII, ↓o_MulSI, ↓o_ModII, ↓o_DivII, ↓o_PowII, ↓o_LtII, ↓o_LtSS, ↓o_LeII, ↓o_LeSS, ↓o_GtII, ↓o_GtSS, ↓o_GeII, ↓o_GeSS, ↓o_EqII, ↓o_EqSS, ↓o_EqBB, ↓o_EqRR, ↓o_NeII, ↓o_NeSS, ↓o_NeBB, ↓o_NeRR, ↓o_InR, ↓o_InS, ↓o_IxS, ↓o_IxR, ↓o_SlS, ↓o_SlR, ↓o_LenS, ↓o_LenR, ↓o_IntI, ↓o_IntB, ↓o_IntS, ↓o_Abs, ↓o_Max, ↓o_Min, ↓o_Str, ↓o_Divmod, ↓x_Bl, ↓x_Int, ↓x_Str, ↓x_Ref, ↓x_StrT, ↓w_For, ↓w_Lc, ↓w_iEnum, ↓w_iZipG, ↓w_iList, ↓w_iTup, ↓w_iStr, ↓w_iR1, ↓w_iR2, cx_K, wipe, tYes, gCons_c, gNil_c, S_cat, S_nil, len_S, List.length_append, dig2_len, toS_nat, lit_colon, lit_dash, lit_e, L2.start, List.length_cons, List.length_nil, List.map_cons, List.map_nil, List.replicate, List.cons_append, List.nil_append, List.append_nil, List.getElem?_cons_zero, List.getElem?_cons_succ, Option.some.injEq, exists_eq_left', exists_eq_left, exists_eq', V.int.injEq, V.bl.injEq, V.str.injEq, V.ref.injEq, List.cons.injEq, List.set_cons_zero, List.set_cons_succ, Nat.sub_self, Nat.add_sub_cancel, Nat.zero_add, Nat.reduceSub, Nat.reduceAdd, Bool.false_eq_true, reduceIte, exN_iff, dec1, and_true, true_and, isi_ii, isi_ib, isi_ss, Bool.not_true, Bool.not_false, tNever, tJs, rNewStrs, Int.natAbs_natCast]
      rename_i v
      obtain ⟨h0, h1, q⟩ := h
      obtain ⟨n, rfl⟩ := Int.eq_ofNat_of_zero_le h0
      rw [Int.toNat_natCast] at q
      have e1 : ((n : Int) % 86400 / 3600).toNat = n % 86400 / 3600 := by omega
      have e2 : ((n : Int) % 86400 % 3600 / 60).toNat = n % 3600 / 60 := by omega
      have e3 : ((n : Int) % 86400 % 60).toNat = n % 60 := by omega
      rw [e1, e2, e3, show Int.toNat 2 = 2 from rfl, zeros_of (by omega), zeros_of (by omega), zeros_of (by omega)]
      walk_at "wp"
      have hb : ∀ j : Int, 0 < j → j.natAbs.log2 < 9000 → CDivW (n : Int) j ∧ CDivW ((n : Int) % 86400) j ∧ CDivW ((n : Int) % 86400 % 3600) j := fun j h1 h2 => ⟨⟨h1, h2⟩, ⟨h1, h2⟩, ⟨h1, h2⟩⟩
      have l : ∀ k : Nat, k ≤ 8 → k ≤ sizeLine := fun k hk => line_of (by omega)
      refine ⟨(hb _ (by decide) (by decide +kernel)).1, by decide, (hb _ (by decide) (by decide +kernel)).2.1, by omega, by omega, by decide, by decide, l 3 (by decide), by decide, (hb _ (by decide) (by decide +kernel)).2.2, by omega, by omega, by decide, by decide, l 5 (by decide), l 6 (by decide), by decide, by omega, by omega, by decide, by decide, l 8 (by decide), ?_⟩
      unfold textOf at q
      by_cases hd : n / 86400 = 0
      · rw [if_pos hd] at q
        rw [if_pos (decide_eq_true (by omega))]
        simpa only [List.append_assoc, List.nil_append] using q
      · rw [if_neg hd] at q
        rw [if_neg (by intro z; have := of_decide_eq_true z; omega)]
        have e : (n : Int) / 86400 = ((n / 86400 : Nat) : Int) := by omega
        rw [e, toS_nat]
        walk_at "wp"
        have hl := numL_len (n := n / 86400) (k := 2) (by omega) (by decide)
        refine ⟨G.log2_small (by omega), line_of (by omega), line_of (by omega), ?_⟩
        simpa only [List.append_assoc] using q
    · exact h.elim
/-! parts and signs of a text -/
/-- the parts between the separators -/
def pcs : List Nat → List Nat → List (List Nat)
  | acc, [] => [acc]
  | acc, c :: r => if c = 45 ∨ c = 58 then acc :: pcs [] r else pcs (acc ++ [c]) r
def partsT (t : List Nat) : List (List Nat) := pcs [] t
def signsT (t : List Nat) : List Nat := t.filter fun c => !isD c
theorem repl_map : ∀ t : List Nat, StrLaws.replL [45] [58] t = t.map fun c => if c = 45 then 58 else c
  | [] => StrLaws.replL_nil
  | c :: r => by
    by_cases h : c = 45
    · subst h
      rw [StrLaws.replL_hit (by decide) rfl]
      show [58] ++ StrLaws.replL [45] [58] r = _
      rw [repl_map r]
      rfl
    · rw [StrLaws.replL_miss (by simpa using h), repl_map r, List.map_cons, if_neg h]
theorem spl_pcs : ∀ (t acc : List Nat), TL.spl [58] 0 acc (t.map fun c => if c = 45 then 58 else c) = pcs acc t
  | [], acc => rfl
  | c :: r, acc => by
    rw [List.map_cons, pcs]
    by_cases h : c = 45 ∨ c = 58
    · have e : (if c = 45 then 58 else c) = 58 := by
        rcases h with h | h
        · rw [if_pos h]
        · rw [h]; rfl
      rw [if_pos h, e, TL.spl_hit (by rfl)]
      show acc :: TL.spl [58] 0 [] _ = _
      rw [spl_pcs r []]
    · have h1 : ¬ c = 45 := fun z => h (.inl z)
      have h2 : ¬ c = 58 := fun z => h (.inr z)
      rw [if_neg h, if_neg h1, TL.spl_miss (by simp [TL.pre, h2]), spl_pcs r (acc ++ [c])]
theorem parts_eq (x : Str) : Txt.split (Txt.replace x (Str.ofString "-") (Str.ofString ":")) (Str.ofString ":") = (partsT (tl x)).map S := by
  have e : Txt.replace x (Str.ofString "-") (Str.ofString ":") = S ((tl x).map fun c => if c = 45 then 58 else c) := by
    refine str_eta ?_
    have h := StrLaws.replace_list (x := x) (y := Str.ofString "-") (z := Str.ofString ":") (by decide +kernel)
    refine h.trans ?_
    rw [show (Str.ofString "-").cps.toList = [45] by decide +kernel, show (Str.ofString ":").cps.toList = [58] by decide +kernel]
    exact repl_map (tl x)
  rw [e, lit_colon, SX.split_S (by decide) (by decide), spl_pcs]
  rfl
theorem parts_len (x : Str) : (Txt.replace x (S [45]) (S [58])).length = x.length := by
  rw [← lit_dash, ← lit_colon]
  have h := StrLaws.replace_list (x := x) (y := Str.ofString "-") (z := Str.ofString ":") (by decide +kernel)
  rw [len_tl, len_tl]
  refine (congrArg List.length h).trans ?_
  rw [show (Str.ofString "-").cps.toList = [45] by decide +kernel, show (Str.ofString ":").cps.toList = [58] by decide +kernel]
  exact (congrArg List.length (repl_map (tl x))).trans (List.length_map _)
theorem lit_digits : tl (Str.ofString "0123456789") = [48, 49, 50, 51, 52, 53, 54, 55, 56, 57] := by decide +kernel
theorem dig_mem (c : Nat) : decide (c ∈ tl (Str.ofString "0123456789")) = isD c := by
  rw [lit_digits]
  unfold isD
  by_cases h : 48 ≤ c ∧ c ≤ 57
  · rw [decide_eq_true h.1, decide_eq_true h.2, decide_eq_true]
    · rfl
    · simp only [List.mem_cons, List.not_mem_nil, or_false]
      omega
  · have e : (decide (48 ≤ c) && decide (c ≤ 57)) = false := by
      rw [Bool.and_eq_false_iff, decide_eq_false_iff_not, decide_eq_false_iff_not]
      omega
    rw [e, decide_eq_false]
    simp only [List.mem_cons, List.not_mem_nil, or_false]
    omega
theorem joinL_nil : ∀ l : List (List Nat), TL.joinL [] l = l.flatten
  | [] => rfl
  | [p] => by simp [TL.joinL]
  | p :: q :: r => by
    show p ++ ([] ++ TL.joinL [] (q :: r)) = _
    rw [joinL_nil (q :: r)]
    rfl
theorem join_ones (l : List Nat) : Txt.join (S []) (l.map fun c => S [c]) = S l := by
  have e : (l.map fun c => S [c]) = (l.map fun c => [c]).map S := by rw [List.map_map]; rfl
  rw [e, SX.join_S, joinL_nil]
  congr 1
  induction l with
  | nil => rfl
  | cons a l ih =>
    rw [List.map_cons, List.flatten_cons, ih (by rw [List.map_map]; rfl)]
    rfl
def sp__law_parts (K : PySem.W.Frag) : Sp := fun vs H Q _ => match vs with
  | [.str x] => x.length ≤ 600 ∧ ∀ p l H', Same H H' → H p = none → H l = none → p ≠ l → H' p = some (.lst [.ref l, .str (S (signsT (tl x)))]) → H' l = some (.lst (((partsT (tl x)).map S).map V.str)) → Q (.ref p) H'
  | _ => False
theorem c__law_parts {f : Addr} {fd : FuncData} (T : Txt K mg) (F : Fun K "_law_parts" "_law_parts" s__law_parts f fd) (hm : mg "_law_parts" = some (.ref f))  : CallOk P w K mg base "_law_parts" 1 ["text"] (sp__law_parts K) := by
  refine ⟨f, fd, hm, F.kp, F.binds (ps := ["text"]) (fun _ _ _ _ _ _ us hl => match us, hl with | [_], _ => rfl), F.okT (by decide +kernel) (by decide) sc__law_parts (fun vs H Q E h => ?_) (fun cdv A outer s H vs Q E hr h => ⟨_, (CwR.psst_one (CwR.pst_ret (pet_lst (pat_cons (pet_m1 PySem.F.slot_str_split PySem.F.type_str_split mt_split (CwR.pet_replC (pv 0)) pe_str) (pat_cons (CwR.PET.of (pe_join pe_str (pe_lc (own := [("sign", 1)]) (g := (gName 1)) rfl sc__law_parts.nd (pi_str (pv 0)) (blkOk_by (own := [("sign", 1)]) (N := ["text", "sign"]) (sc := defScope s__law_parts) (by decide +kernel)) (fun _ _ _ _ _ => (pg_name (i := 1) sc__law_parts.nd rfl (Or.inl rfl))) (fun _ _ _ _ _ => (pts_one (pt_cmpR (op_notInK K) (pv 1) pe_str (by with_unfolding_all rfl)))) (fun _ _ _ _ _ => (pv 1))))) pat_nil))))), ?_⟩)⟩
  · revert h
    unfold sp__law_parts
    split <;> intro h <;> first | rfl | exact False.elim h
  · unfold sp__law_parts at h
    split at h
    · walk_at "wp"
      rename_i x
      obtain ⟨hx, q⟩ := h
      refine ⟨Nat.le_trans (show x.length + (x.length + 1) * 1 ≤ 2000 by omega) (by decide), _, _, rfl, rfl, by decide, ?_, fun l hl D hD => ?_⟩
      · rw [parts_len]
        exact line_of (by omega)
      have hp2 := parts_eq x
      rw [lit_dash, lit_colon] at hp2
      rw [hp2] at hD ⊢
      have hlD : l ≠ D := ne_of_none upd_same hD
      have hD0 : H D = none := by rw [upd_ne (Ne.symm hlD)] at hD; exact hD
      refine LoopC.by (walk_str (z := x)) (fun i H' => Same H H' ∧ H' l = some (.lst (((partsT (tl x)).map S).map V.str)) ∧ H' D = some (.lst (((signsT ((tl x).take i)).map fun c => S [c]).map V.str)))
        ⟨(sameI hl).trans (sameI hD), (by rw [upd_ne hlD]; exact upd_same), upd_same⟩ (fun _ _ _ _ => trivial) ?_ ?_
      · rintro i y H1 H' hi ⟨sm, hl1, hD1⟩ ⟨rfl, c, hc, rfl⟩
        walk_at "wp"
        have hc2 : (tl x)[i]? = some c := by
          rw [← hc]
          exact Array.getElem?_toList
        have htake : (tl x).take (i + 1) = (tl x).take i ++ [c] := by rw [List.take_add_one, hc2]; rfl
        have hisd : decide (c ∈ tl (Str.ofString "0123456789")) = isD c := dig_mem c
        have hlen : (signsT ((tl x).take i)).length ≤ 600 := by
          refine Nat.le_trans (List.length_filter_le _ _) ?_
          rw [List.length_take, ← len_tl]
          omega
        have hsg : signsT ((tl x).take (i + 1)) = signsT ((tl x).take i) ++ if isD c = true then [] else [c] := by
          rw [htake]
          unfold signsT
          rw [List.filter_append]
          cases h : isD c <;> simp [List.filter, h]
        rw [hisd, hsg]
        cases h : isD c with
        | true =>
          rw [if_neg (by decide), if_pos rfl, List.append_nil]
          exact ⟨sm, hl1, hD1⟩
        | false =>
          rw [if_pos (by decide), if_neg (by decide)]
          refine ⟨_, hD1, ?_, same_mut sm hD0, (by rw [upd_ne hlD]; exact hl1), ?_⟩
          · rw [List.length_map, List.length_map]
            exact Nat.lt_of_le_of_lt hlen (by decide)
          · rw [upd_same, List.map_append, List.map_append]
            rfl
      · rintro H1 ⟨sm, hl1, hD1⟩
        have hall : (tl x).take x.cps.size = tl x := List.take_of_length_le (Nat.le_of_eq (len_tl x).symm)
        rw [hall] at hD1
        refine ⟨_, D, (signsT (tl x)).map fun c => S [c], rfl, rfl, .inl (SqL.of hD1), ?_, by decide, fun p hp => ?_⟩
        · have h1 : ((signsT (tl x)).map fun c => S [c]).length ≤ 600 := by
            rw [List.length_map]
            refine Nat.le_trans (List.length_filter_le _ _) ?_
            rw [← len_tl]
            exact hx
          have h2 : ∀ l : List Nat, ((l.map fun c => S [c]).map (·.length)).sum = l.length := by
            intro l
            induction l with
            | nil => rfl
            | cons a l ih =>
              rw [List.map_cons, List.map_cons, List.sum_cons, ih, List.length_cons]
              show 1 + l.length = _
              omega
          rw [h2]
          rw [List.length_map] at h1
          show (signsT (tl x)).length + _ * 0 ≤ _
          omega
        · have hj : Txt.join (S []) ((signsT (tl x)).map fun c => S [c]) = S (signsT (tl x)) := join_ones _
          rw [hj]
          have hpl : l ≠ p := ne_of_none hl1 hp
          refine q p l _ (sm.trans (sameI hp)) (sm.free hp) hl (Ne.symm hpl) upd_same ?_
          rw [upd_ne hpl]
          exact hl1
    · exact h.elim
end
end K00
namespace K00
open PySem PySem.Spec PyProof.Rows L2 G
local macro_rules | `(tactic| walk_at "st") => `(tactic| simp only [L2.start, cx_K, List.length_cons, List.length_nil, List.map_cons, List.map_nil, List.replicate, List.cons_append, List.nil_append, Nat.sub_self, Nat.add_sub_cancel, Nat.reduceSub, Nat.reduceAdd, Nat.zero_add])
local macro_rules | `(tactic| walk_at "wp") => `(tactic| simp only [↓tV0, ↓gN0, ↓tV1, ↓gN1, ↓tV2, ↓gN2, ↓tV3, ↓gN3, ↓tV4, ↓gN4, ↓tV5, ↓gN5, ↓tV6, ↓gN6, ↓tV7, ↓gN7, ↓tV8, ↓gN8, ↓tV9, ↓gN9, ↓tV10, ↓gN10, ↓tV11, ↓gN11, ↓tV12, ↓gN12, ↓tV13, ↓gN13, ↓w_Ret, ↓w_RetN, ↓w_C, ↓w_Op, ↓w_Un, ↓w_UnI, ↓w_Asg, ↓w_Seq, ↓w_IfS, ↓w_Next, ↓w_Drop, ↓w_CB, ↓w_Call, ↓w_Nil, ↓w_Cons, ↓w_NoPart, ↓w_Part, ↓w_Sl, ↓w_Test, ↓w_And, ↓w_Or, ↓w_Not, ↓w_AndV, ↓w_OrV, ↓w_NotV, ↓w_If, ↓w_Chain, ↓w_TruG, ↓w_TruB, ↓w_TruI, ↓w_TruN, ↓w_Tup, ↓w_Lst, ↓w_Par, ↓w_Sub, ↓w_M1, ↓w_BM, ↓w_ReplC, ↓w_RaiseC, ↓w_Fmt02, ↓w_FmtG, ↓w_FmtS, ↓w_FmtI, ↓o_AddII, ↓o_AddSS, ↓o_AddRR, ↓o_SubII, ↓o_MulII, ↓o_MulSI, ↓o_ModII, ↓o_DivII, ↓o_PowII, ↓o_LtII, ↓o_LtSS, ↓o_LeII, ↓o_LeSS, ↓o_GtII, ↓o_GtSS, ↓o_GeII, ↓o_GeSS, ↓o_EqII, ↓o_EqSS, ↓o_EqBB, ↓o_EqRR, ↓o_NeII, ↓o_NeSS, ↓o_NeBB, ↓o_NeRR, ↓o_InR, ↓o_InS, ↓o_IxS, ↓o_IxR, ↓o_SlS, ↓o_SlR, ↓o_LenS, ↓o_LenR, ↓o_IntI, ↓o_IntB, ↓o_IntS, ↓o_Abs, ↓o_Max, ↓o_Min, ↓o_Str, ↓o_Divmod, ↓x_Bl, ↓x_Int, ↓x_Str, ↓x_Ref, ↓x_StrT, ↓w_For, ↓w_Lc, ↓w_iEnum, ↓w_iZipG, ↓w_iList, ↓w_iTup, ↓w_iStr, ↓w_iR1, ↓w_iR2, cx_K, wipe, tYes, gCons_c, gNil_c, S_cat, S_nil, len_S, List.length_append, dig2_len, toS_nat, lit_colon, lit_dash, lit_e, L2.start, List.length_cons, List.length_nil, List.map_cons, List.map_nil, List.replicate, List.cons_append, List.nil_append, List.append_nil, List.getElem?_cons_zero, List.getElem?_cons_succ, Option.some.injEq, exists_eq_left', exists_eq_left, exists_eq', V.int.injEq, V.bl.injEq, V.str.injEq, V.ref.injEq, List.cons.injEq, List.set_cons_zero, List.set_cons_succ, Nat.sub_self, Nat.add_sub_cancel, Nat.zero_add, Nat.reduceSub, Nat.reduceAdd, Bool.false_eq_true, reduceIte, exN_iff, dec1, and_true, true_and, isi_ii, isi_ib, isi_ss, Bool.not_true, Bool.not_false, tNever, tJs, rNewStrs, Int.natAbs_natCast])
section
variable {P : Program} {w : World} {K : PySem.W.Frag} {mg : Str → Option Value} {base : Heap} {C_ParseError : Addr}

/-- the parts that are too long -/
def longs : Nat → List (List Nat) → List (List Nat)
  | _, [] => []
  | i, p :: r => (if (if i = 0 then 7 else 2) < p.length then [p] else []) ++ longs (i + 1) r
def okSigns (s : List Nat) : Bool := decide (s <+: [58, 58]) || decide (s <+: [45, 58, 58])
def goesT (t : List Nat) : Bool := okSigns (signsT t) && (decide (longs 0 (partsT t) = []) && !decide (([] : List Nat) ∈ (partsT t).dropLast))
theorem pcs_mem : ∀ (t acc : List Nat) (p : List Nat), p ∈ pcs acc t → ∀ c ∈ p, c ∈ acc ∨ c ∈ t
  | [], acc, p, h, c, hc => by
    simp [pcs] at h
    subst h
    exact .inl hc
  | d :: r, acc, p, h, c, hc => by
    rw [pcs] at h
    split at h
    · rcases List.mem_cons.mp h with h | h
      · subst h
        exact .inl hc
      · rcases pcs_mem r [] p h c hc with q | q
        · cases q
        · exact .inr (List.mem_cons_of_mem _ q)
    · rcases pcs_mem r (acc ++ [d]) p h c hc with q | q
      · rcases List.mem_append.mp q with q | q
        · exact .inl q
        · exact .inr (by rw [List.mem_singleton.mp q]; exact List.mem_cons_self ..)
      · exact .inr (List.mem_cons_of_mem _ q)
theorem pcs_len : ∀ (t acc : List Nat), (pcs acc t).length ≤ t.length + 1
  | [], acc => Nat.le_refl _
  | d :: r, acc => by
    rw [pcs]
    split
    · have := pcs_len r []
      simp only [List.length_cons]
      omega
    · have := pcs_len r (acc ++ [d])
      simp only [List.length_cons]
      omega
theorem pcs_short : ∀ (t acc : List Nat) (p : List Nat), p ∈ pcs acc t → p.length ≤ acc.length + t.length
  | [], acc, p, h => by
    simp [pcs] at h
    subst h
    omega
  | d :: r, acc, p, h => by
    rw [pcs] at h
    split at h
    · rcases List.mem_cons.mp h with h | h
      · subst h
        omega
      · have := pcs_short r [] p h
        simp only [List.length_cons, List.length_nil] at this ⊢
        omega
    · have := pcs_short r (acc ++ [d]) p h
      simp only [List.length_cons, List.length_append, List.length_nil] at this ⊢
      omega
theorem longs_sub : ∀ (l : List (List Nat)) (i : Nat) (p : List Nat), p ∈ longs i l → p ∈ l
  | [], _, p, h => by simp [longs] at h
  | q :: r, i, p, h => by
    rw [longs] at h
    rcases List.mem_append.mp h with h | h
    · by_cases hh : (if i = 0 then 7 else 2) < q.length
      · rw [if_pos hh] at h
        rw [List.mem_singleton.mp h]
        exact List.mem_cons_self ..
      · rw [if_neg hh] at h
        cases h
    · exact List.mem_cons_of_mem _ (longs_sub r (i + 1) p h)
theorem longs_len : ∀ (l : List (List Nat)) (i : Nat), (longs i l).length ≤ l.length
  | [], _ => by simp [longs]
  | q :: r, i => by
    rw [longs, List.length_append]
    have := longs_len r (i + 1)
    by_cases hh : (if i = 0 then 7 else 2) < q.length
    · rw [if_pos hh]; simp only [List.length_cons, List.length_nil]; omega
    · rw [if_neg hh]; simp only [List.length_cons, List.length_nil]; omega
theorem cutV_last (xs : List V) : cutV xs none (some (-1)) = xs.dropLast := by
  unfold cutV
  rw [HT.sIx_none]
  have e : HT.sIx xs.length xs.length (some (-1)) = xs.length - 1 := by
    show (if (-1 : Int) < 0 then ((-1 : Int) + (xs.length : Int)).toNat else min (-1 : Int).toNat xs.length) = _
    rw [if_pos (by decide)]
    omega
  rw [e, List.drop_zero, List.dropLast_eq_take, Nat.sub_zero]
theorem strB (a b : List Nat) : (S a == S b) = decide (a = b) := by
  by_cases h : a = b
  · subst h
    rw [decide_eq_true rfl]
    exact beq_self_eq_true _
  · rw [decide_eq_false h]
    refine beq_eq_false_iff_ne.mpr fun e => h ?_
    have := congrArg tl e
    exact this
theorem inV_strs (a : List Nat) : ∀ l : List (List Nat), inV (V.str (S a)) ((l.map S).map V.str) = decide (a ∈ l)
  | [] => by simp [inV]
  | p :: l => by
    have ih := inV_strs a l
    unfold inV at ih ⊢
    rw [List.map_cons, List.map_cons, List.any_cons, ih]
    show (S p == S a || decide (a ∈ l)) = _
    rw [strB]
    by_cases h : p = a
    · subst h; simp
    · have h2 : ¬ a = p := fun e => h e.symm
      simp [h, h2]
theorem flat_strs : ∀ l : List (List Nat), (((l.map S).map V.str).all flatV) = true
  | [] => rfl
  | _ :: l => flat_strs l
theorem lit_cc : Str.ofString "::" = S [58, 58] := by decide +kernel
theorem lit_dcc : Str.ofString "-::" = S [45, 58, 58] := by decide +kernel
def Fine (x : Str) : Prop := x.length ≤ 600 ∧ ∀ c ∈ tl x, c < 128
def sp__law_goes_on (K : PySem.W.Frag) : Sp := fun vs H Q _ => match vs with
  | [.str x] => Fine x ∧ ∀ H', Same H H' → Q (.bl (goesT (tl x))) H'
  | _ => False
theorem c__law_goes_on {f : Addr} {fd : FuncData} (T : Txt K mg) (F : Fun K "_law_goes_on" "_law_goes_on" s__law_goes_on f fd) (hm : mg "_law_goes_on" = some (.ref f)) (C__law_parts : CallOk P w K mg base "_law_parts" 1 ["text"] (sp__law_parts K)) : CallOk P w K mg base "_law_goes_on" 2 ["text"] (sp__law_goes_on K) := by
  refine ⟨f, fd, hm, F.kp, F.binds (ps := ["text"]) (fun _ _ _ _ _ _ us hl => match us, hl with | [_], _ => rfl), F.okX sc__law_goes_on (fun vs H Q E h => ?_) (fun cdv A outer s H vs Q E hr h => ⟨_, (pss_cons (ps_asg (pe_c0 C__law_parts (hr.mono (by decide)) (pa_cons (pv 0) pa_nil)) (pg_lst rfl (pgs_cons (pg_name (i := 1) sc__law_goes_on.nd rfl (Or.inl rfl)) (pgs_cons (pg_name (i := 2) sc__law_goes_on.nd rfl (Or.inl rfl)) pgs_nil))))
      (pss_cons (ps_if (PW.pt (pw_and (pt_not (pt_truG (pe_m1 PySem.F.slot_str_startswith PySem.F.type_str_startswith mt_startswith pe_str (pv 2)))) (pw_and1 (pt_not (pt_truG (pe_m1 PySem.F.slot_str_startswith PySem.F.type_str_startswith mt_startswith pe_str (pv 2))))))) (pss_one (ps_ret pe_bl)) pss_nil)
      (pss_cons (ps_setLc (i := 3) (own := [("at", 4), ("part", 5)]) (g := (gTup K 2 (gCons (gName 4) (gCons (gName 5) gNil)))) rfl sc__law_goes_on.nd rfl rfl (sw_true rfl rfl rfl (by decide +kernel)) (pi_enum (by rfl) T.n_enumerate (pa_cons (pv 1) pa_nil)) (blkOk_by (own := [("at", 4), ("part", 5)]) (N := ["text", "parts", "signs", "long", "at", "part"]) (sc := defScope s__law_goes_on) (by decide +kernel)) (fun _ _ _ _ _ => (pg_tup rfl (pgs_cons (pg_name (i := 4) sc__law_goes_on.nd rfl (Or.inl rfl)) (pgs_cons (pg_name (i := 5) sc__law_goes_on.nd rfl (Or.inl rfl)) pgs_nil)))) (fun _ _ _ _ _ => (pts_one (pt_cmpR op_gtG (pe_callB (call_lenK K) (by rfl) T.n_len (by decide +kernel) (pa_cons (pv 5) pa_nil)) (pe_ifExp (pt_cmpR (op_eqK K hr.units) (pv 4) pe_int (nomark _)) pe_int pe_int) (nomark _)))) (fun _ _ _ _ _ => (pv 5)))
      (pss_one (ps_ret (pe_and (pe_cmpR (op_eqG hr.units) (pv 3) (pe_lst pa_nil) (nomark _)) (pe_one (pe_cmpR op_notInG pe_str (pe_slice sl_G (pv 1) po_none (po_some (pe_un un_neg pe_int))) (by with_unfolding_all rfl))))))))), ?_⟩)⟩
  · revert h
    unfold sp__law_goes_on
    split <;> intro h <;> first | rfl | exact False.elim h
  · unfold sp__law_goes_on at h
    split at h
    · walk_at "st"
      rename_i x
      obtain ⟨⟨hx, hc⟩, q⟩ := h
      simp only [↓sp__law_parts, ↓tV0, ↓gN0, ↓tV1, ↓gN1, ↓tV2, ↓gN2, ↓tV3, ↓gN3, ↓tV4, ↓gN4, ↓tV5, ↓gN5, ↓tV6, ↓gN6, ↓tV7, ↓gN7, ↓tV8, ↓gN8, ↓tV9, ↓gN9, ↓tV10, ↓gN10, ↓tV11, ↓gN11, ↓tV12, ↓gN12, ↓tV13, ↓gN13, ↓w_Ret, ↓w_RetN, ↓w_C, ↓w_Op, ↓w_Un, ↓w_UnI, ↓w_Asg, ↓w_Seq, ↓w_IfS, ↓w_Next, ↓w_Drop, ↓w_CB, ↓w_Call, ↓w_Nil, ↓w_Cons, ↓w_NoPart, ↓w_Part, ↓w_Sl, ↓w_Test, ↓w_And, ↓w_Or, ↓w_Not, ↓w_AndV, ↓w_OrV, ↓w_NotV, ↓w_If, ↓w_Chain, ↓w_TruG, ↓w_TruB, ↓w_TruI, ↓w_TruN, ↓w_Tup, ↓w_Lst, ↓w_Par, ↓w_Sub, ↓w_M1, ↓w_BM, ↓w_ReplC, ↓w_RaiseC, ↓w_Fmt02, ↓w_FmtG, ↓w_FmtS, ↓w_FmtI, ↓o_AddII, ↓o_AddSS, ↓o_AddRR, ↓o_SubII, ↓o_MulII, ↓o_MulSI, ↓o_ModII, ↓o_DivII, ↓o_PowII, ↓o_LtII, ↓o_LtSS, ↓o_LeII, ↓o_LeSS, ↓o_GtII, ↓o_GtSS, ↓o_GeII, ↓o_GeSS, ↓o_EqII, ↓o_EqSS, ↓o_EqBB, ↓o_EqRR, ↓o_NeII, ↓o_NeSS, ↓o_NeBB, ↓o_NeRR, ↓o_InR, ↓o_InS, ↓o_IxS, ↓o_IxR, ↓o_SlS, ↓o_SlR, ↓o_LenS, ↓o_LenR, ↓o_IntI, ↓o_IntB, ↓o_IntS, ↓o_Abs, ↓o_Max, ↓o_Min, ↓o_Str, ↓o_Divmod, ↓x_Bl, ↓x_Int, ↓x_Str, ↓x_Ref, ↓x_StrT, ↓w_For, ↓w_Lc, ↓w_iEnum, ↓w_iZipG, ↓w_iList, ↓w_iTup, ↓w_iStr, ↓w_iR1, ↓w_iR2, cx_K, wipe, tYes, gCons_c, gNil_c, S_cat, S_nil, len_S, List.length_append, dig2_len, toS_nat, lit_colon, lit_dash, lit_e, L2.start, List.length_cons, List.length_nil, List.map_cons, List.map_nil, List.replicate, List.cons_append, List.nil_append, List.append_nil, List.getElem?_cons_zero, List.getElem?_cons_succ, Option.some.injEq, exists_eq_left', exists_eq_left, exists_eq', V.int.injEq, V.bl.injEq, V.str.injEq, V.ref.injEq, List.cons.injEq, List.set_cons_zero, List.set_cons_succ, Nat.sub_self, Nat.add_sub_cancel, Nat.zero_add, Nat.reduceSub, Nat.reduceAdd, Bool.false_eq_true, reduceIte, exN_iff, dec1, and_true, true_and, isi_ii, isi_ib, isi_ss, Bool.not_true, Bool.not_false, tNever, tJs, rNewStrs, Int.natAbs_natCast]
      refine ⟨hx, fun p l H1 sm hp hl hpl hp1 hl1 => ?_⟩
      refine gLst_of hp1 rfl ?_
      walk_at "wp"
      have hF : okSigns (signsT (tl x)) = false → Q (V.bl false) H1 := fun h => by
        have := q H1 sm
        unfold goesT at this
        rw [h, Bool.false_and] at this
        exact this
      have hT : okSigns (signsT (tl x)) = true → ∀ H', Same H H' → Q (.bl (decide (longs 0 (partsT (tl x)) = []) && !decide (([] : List Nat) ∈ (partsT (tl x)).dropLast))) H' := fun h => by
        unfold goesT at q
        rw [h] at q
        exact q
      refine ⟨_, _, lit_cc, rfl, ?_⟩
      rw [starts_S]
      have ok1 : ∀ b, decide (signsT (tl x) <+: [58, 58]) = b → okSigns (signsT (tl x)) = (b || decide (signsT (tl x) <+: [45, 58, 58])) := fun b e => by
        unfold okSigns
        rw [e]
      show if (!decide (signsT (tl x) <+: [58, 58])) = true then _ else _
      have hsh : ∀ p ∈ partsT (tl x), p.length ≤ 600 := fun p hp => by
        have := pcs_short (tl x) [] p hp
        rw [← len_tl, List.length_nil] at this
        omega
      have hpl2 : (partsT (tl x)).length ≤ 601 := by
        have := pcs_len (tl x) []
        rw [← len_tl] at this
        exact Nat.le_trans this (by omega)
      have hstr : ∀ y ∈ (longs 0 (partsT (tl x))).map S, PyData.strOk y = true := fun y hy => by
        obtain ⟨p, hp, rfl⟩ := List.mem_map.mp hy
        have hp2 := longs_sub _ _ _ hp
        unfold PyData.strOk
        rw [← Array.all_toList]
        refine List.all_eq_true.mpr fun c hcp => decide_eq_true ?_
        rcases pcs_mem (tl x) [] p hp2 c hcp with h | h
        · cases h
        · have := hc c h
          omega
      cases e1 : decide (signsT (tl x) <+: [58, 58])
      · rw [if_pos (by decide)]
        refine ⟨_, _, lit_dcc, rfl, ?_⟩
        rw [starts_S]
        show if (!decide (signsT (tl x) <+: [45, 58, 58])) = true then _ else _
        have ok2 := ok1 _ e1
        cases e2 : decide (signsT (tl x) <+: [45, 58, 58])
        · rw [e2] at ok2
          rw [if_pos (by decide)]
          exact hF ok2
        · rw [e2] at ok2
          rw [if_neg (by decide)]
          have hT' := hT ok2
          clear hT hF ok1 q
          refine ⟨l, _, rfl, SqL.of hl1, fun D hD => ?_⟩
          have hlD : l ≠ D := ne_of_none hl1 hD
          have hD0 : H D = none := sm.free hD
          refine LoopC.by (walk_enum (xs := ((partsT (tl x)).map S).map V.str)) (fun i H' => Same H H' ∧ H' l = some (.lst (((partsT (tl x)).map S).map V.str)) ∧ ∃ acc : List (List Nat), acc.length ≤ i ∧
            H' D = some (.lst ((acc.map S).map V.str)) ∧ acc ++ longs i ((partsT (tl x)).drop i) = longs 0 (partsT (tl x)))
            ⟨sm.trans (sameI hD), (by rw [upd_ne hlD]; exact hl1), [], Nat.le_refl _, upd_same, rfl⟩ (fun i H' _ h => SqL.of h.2.1) ?_ ?_
          · rintro i y H2 H3 hi ⟨sm2, hl2, acc, hacc, hD2, hlg⟩ ⟨T, y1, y2, rfl, hT, rfl, e3, e4⟩
            cases e3
            rw [List.length_map, List.length_map] at hi
            have hpi : (partsT (tl x))[i]? = some (partsT (tl x))[i] := List.getElem?_eq_getElem hi
            have ey : y2 = V.str (S (partsT (tl x))[i]) := by
              have e5 : (((partsT (tl x)).map S).map V.str)[i]? = some y2 := e4
              rw [List.getElem?_map, List.getElem?_map, hpi] at e5
              exact (Option.some.inj e5).symm
            subst ey
            have hDT : D ≠ T := ne_of_none hD2 hT
            have hlT : l ≠ T := ne_of_none hl2 hT
            refine gTup_of upd_same rfl ?_
            walk_at "wp"
            refine ⟨line_of (Nat.le_trans (hsh _ (List.getElem_mem hi)) (by decide)), ?_⟩
            rw [List.drop_eq_getElem_cons hi, longs] at hlg
            have good : (if i = 0 then 7 else 2) < (partsT (tl x))[i].length → ∃ acc_1, upd H2 T (HO.tup [V.int (i : Nat), V.str (S (partsT (tl x))[i])]) D = some (HO.lst acc_1) ∧ acc_1.length < sizeLine ∧
                Same H (upd (upd H2 T (HO.tup [V.int (i : Nat), V.str (S (partsT (tl x))[i])])) D (HO.lst (acc_1 ++ [V.str (S (partsT (tl x))[i])]))) ∧
                upd (upd H2 T (HO.tup [V.int (i : Nat), V.str (S (partsT (tl x))[i])])) D (HO.lst (acc_1 ++ [V.str (S (partsT (tl x))[i])])) l = some (HO.lst (((partsT (tl x)).map S).map V.str)) ∧
                ∃ acc : List (List Nat), acc.length ≤ i + 1 ∧ upd (upd H2 T (HO.tup [V.int (i : Nat), V.str (S (partsT (tl x))[i])])) D (HO.lst (acc_1 ++ [V.str (S (partsT (tl x))[i])])) D = some (HO.lst ((acc.map S).map V.str)) ∧
                  acc ++ longs (i + 1) ((partsT (tl x)).drop (i + 1)) = longs 0 (partsT (tl x)) := fun hh => by
              rw [if_pos hh] at hlg
              refine ⟨_, (by rw [upd_ne hDT]; exact hD2), ?_, same_mut (sm2.trans (sameI hT)) hD0, (by rw [upd_ne hlD, upd_ne hlT]; exact hl2), acc ++ [(partsT (tl x))[i]], ?_, ?_, ?_⟩
              · rw [List.length_map, List.length_map]
                exact Nat.lt_of_lt_of_le (show acc.length < 100000 by omega) (by decide)
              · rw [List.length_append]; simp; omega
              · rw [upd_same, List.map_append, List.map_append]; rfl
              · rw [List.append_assoc]; exact hlg
            have skip : ¬ (if i = 0 then 7 else 2) < (partsT (tl x))[i].length → Same H (upd H2 T (HO.tup [V.int (i : Nat), V.str (S (partsT (tl x))[i])])) ∧
                upd H2 T (HO.tup [V.int (i : Nat), V.str (S (partsT (tl x))[i])]) l = some (HO.lst (((partsT (tl x)).map S).map V.str)) ∧
                ∃ acc : List (List Nat), acc.length ≤ i + 1 ∧ upd H2 T (HO.tup [V.int (i : Nat), V.str (S (partsT (tl x))[i])]) D = some (HO.lst ((acc.map S).map V.str)) ∧
                  acc ++ longs (i + 1) ((partsT (tl x)).drop (i + 1)) = longs 0 (partsT (tl x)) := fun hh => by
              rw [if_neg hh, List.nil_append] at hlg
              exact ⟨sm2.trans (sameI hT), (by rw [upd_ne hlT]; exact hl2), acc, by omega, (by rw [upd_ne hDT]; exact hD2), hlg⟩
            by_cases hi0 : i = 0
            · rw [if_pos hi0] at good skip
              rw [if_pos (decide_eq_true (by omega))]
              by_cases h7 : 7 < (partsT (tl x))[i].length
              · rw [if_pos (decide_eq_true (by omega))]; exact good h7
              · rw [if_neg (by intro z; have := of_decide_eq_true z; omega)]; exact skip h7
            · rw [if_neg hi0] at good skip
              rw [if_neg (by intro z; have := of_decide_eq_true z; omega)]
              by_cases h7 : 2 < (partsT (tl x))[i].length
              · rw [if_pos (decide_eq_true (by omega))]; exact good h7
              · rw [if_neg (by intro z; have := of_decide_eq_true z; omega)]; exact skip h7
          · rintro H2 ⟨sm2, hl2, acc, hacc, hD2, hlg⟩
            rw [List.length_map, List.length_map, List.drop_eq_nil_of_le (Nat.le_refl _)] at hlg
            have hlg2 : acc = longs 0 (partsT (tl x)) := by
              rw [← hlg]
              simp [longs]
            subst hlg2
            refine ⟨Nat.zero_le _, fun p2 hp2 => ?_⟩
            have hDp : D ≠ p2 := ne_of_none hD2 hp2
            have hlp : l ≠ p2 := ne_of_none hl2 hp2
            refine eq_nil (ys := (longs 0 (partsT (tl x))).map S) (SqL.of (by rw [upd_ne hDp]; exact hD2)) (SqL.of upd_same) hstr ?_
            refine ⟨_, rfl, ?_⟩
            have hmap : decide ((longs 0 (partsT (tl x))).map S = []) = decide (longs 0 (partsT (tl x)) = []) := by
              cases longs 0 (partsT (tl x)) <;> rfl
            rw [hmap]
            cases hz : decide (longs 0 (partsT (tl x)) = []) with
            | false =>
              rw [hz] at hT'
              rw [if_neg (by decide)]
              exact hT' _ (sm2.trans (sameI hp2))
            | true =>
              rw [hz] at hT'
              rw [if_pos rfl]
              refine .inl ⟨_, SqL.of (by rw [upd_ne hlp]; exact hl2), fun p3 hp3 => ?_⟩
              rw [cutV_last]
              refine ⟨_, .inl (SqL.of upd_same), rfl, ?_, ?_⟩
              · rw [← List.map_dropLast, ← List.map_dropLast]
                exact flat_strs _
              · rw [← List.map_dropLast, ← List.map_dropLast, inV_strs]
                exact hT' _ ((sm2.trans (sameI hp2)).trans (sameI hp3))
      · have ok2 := ok1 _ e1
        rw [Bool.true_or] at ok2
        rw [if_neg (by decide)]
        have hT' := hT ok2
        clear hT hF ok1 q
        refine ⟨l, _, rfl, SqL.of hl1, fun D hD => ?_⟩
        have hlD : l ≠ D := ne_of_none hl1 hD
        have hD0 : H D = none := sm.free hD
        refine LoopC.by (walk_enum (xs := ((partsT (tl x)).map S).map V.str)) (fun i H' => Same H H' ∧ H' l = some (.lst (((partsT (tl x)).map S).map V.str)) ∧ ∃ acc : List (List Nat), acc.length ≤ i ∧
          H' D = some (.lst ((acc.map S).map V.str)) ∧ acc ++ longs i ((partsT (tl x)).drop i) = longs 0 (partsT (tl x)))
          ⟨sm.trans (sameI hD), (by rw [upd_ne hlD]; exact hl1), [], Nat.le_refl _, upd_same, rfl⟩ (fun i H' _ h => SqL.of h.2.1) ?_ ?_
        · rintro i y H2 H3 hi ⟨sm2, hl2, acc, hacc, hD2, hlg⟩ ⟨T, y1, y2, rfl, hT, rfl, e3, e4⟩
          cases e3
          rw [List.length_map, List.length_map] at hi
          have hpi : (partsT (tl x))[i]? = some (partsT (tl x))[i] := List.getElem?_eq_getElem hi
          have ey : y2 = V.str (S (partsT (tl x))[i]) := by
            have e5 : (((partsT (tl x)).map S).map V.str)[i]? = some y2 := e4
            rw [List.getElem?_map, List.getElem?_map, hpi] at e5
            exact (Option.some.inj e5).symm
          subst ey
          have hDT : D ≠ T := ne_of_none hD2 hT
          have hlT : l ≠ T := ne_of_none hl2 hT
          refine gTup_of upd_same rfl ?_
          walk_at "wp"
          refine ⟨line_of (Nat.le_trans (hsh _ (List.getElem_mem hi)) (by decide)), ?_⟩
          rw [List.drop_eq_getElem_cons hi, longs] at hlg
          have good : (if i = 0 then 7 else 2) < (partsT (tl x))[i].length → ∃ acc_1, upd H2 T (HO.tup [V.int (i : Nat), V.str (S (partsT (tl x))[i])]) D = some (HO.lst acc_1) ∧ acc_1.length < sizeLine ∧
              Same H (upd (upd H2 T (HO.tup [V.int (i : Nat), V.str (S (partsT (tl x))[i])])) D (HO.lst (acc_1 ++ [V.str (S (partsT (tl x))[i])]))) ∧
              upd (upd H2 T (HO.tup [V.int (i : Nat), V.str (S (partsT (tl x))[i])])) D (HO.lst (acc_1 ++ [V.str (S (partsT (tl x))[i])])) l = some (HO.lst (((partsT (tl x)).map S).map V.str)) ∧
              ∃ acc : List (List Nat), acc.length ≤ i + 1 ∧ upd (upd H2 T (HO.tup [V.int (i : Nat), V.str (S (partsT (tl x))[i])])) D (HO.lst (acc_1 ++ [V.str (S (partsT (tl x))[i])])) D = some (HO.lst ((acc.map S).map V.str)) ∧
                acc ++ longs (i + 1) ((partsT (tl x)).drop (i + 1)) = longs 0 (partsT (tl x)) := fun hh => by
            rw [if_pos hh] at hlg
            refine ⟨_, (by rw [upd_ne hDT]; exact hD2), ?_, same_mut (sm2.trans (sameI hT)) hD0, (by rw [upd_ne hlD, upd_ne hlT]; exact hl2), acc ++ [(partsT (tl x))[i]], ?_, ?_, ?_⟩
            · rw [List.length_map, List.length_map]
              exact Nat.lt_of_lt_of_le (show acc.length < 100000 by omega) (by decide)
            · rw [List.length_append]; simp; omega
            · rw [upd_same, List.map_append, List.map_append]; rfl
            · rw [List.append_assoc]; exact hlg
          have skip : ¬ (if i = 0 then 7 else 2) < (partsT (tl x))[i].length → Same H (upd H2 T (HO.tup [V.int (i : Nat), V.str (S (partsT (tl x))[i])])) ∧
              upd H2 T (HO.tup [V.int (i : Nat), V.str (S (partsT (tl x))[i])]) l = some (HO.lst (((partsT (tl x)).map S).map V.str)) ∧
              ∃ acc : List (List Nat), acc.length ≤ i + 1 ∧ upd H2 T (HO.tup [V.int (i : Nat), V.str (S (partsT (tl x))[i])]) D = some (HO.lst ((acc.map S).map V.str)) ∧
                acc ++ longs (i + 1) ((partsT (tl x)).drop (i + 1)) = longs 0 (partsT (tl x)) := fun hh => by
            rw [if_neg hh, List.nil_append] at hlg
            exact ⟨sm2.trans (sameI hT), (by rw [upd_ne hlT]; exact hl2), acc, by omega, (by rw [upd_ne hDT]; exact hD2), hlg⟩
          by_cases hi0 : i = 0
          · rw [if_pos hi0] at good skip
            rw [if_pos (decide_eq_true (by omega))]
            by_cases h7 : 7 < (partsT (tl x))[i].length
            · rw [if_pos (decide_eq_true (by omega))]; exact good h7
            · rw [if_neg (by intro z; have := of_decide_eq_true z; omega)]; exact skip h7
          · rw [if_neg hi0] at good skip
            rw [if_neg (by intro z; have := of_decide_eq_true z; omega)]
            by_cases h7 : 2 < (partsT (tl x))[i].length
            · rw [if_pos (decide_eq_true (by omega))]; exact good h7
            · rw [if_neg (by intro z; have := of_decide_eq_true z; omega)]; exact skip h7
        · rintro H2 ⟨sm2, hl2, acc, hacc, hD2, hlg⟩
          rw [List.length_map, List.length_map, List.drop_eq_nil_of_le (Nat.le_refl _)] at hlg
          have hlg2 : acc = longs 0 (partsT (tl x)) := by
            rw [← hlg]
            simp [longs]
          subst hlg2
          refine ⟨Nat.zero_le _, fun p2 hp2 => ?_⟩
          have hDp : D ≠ p2 := ne_of_none hD2 hp2
          have hlp : l ≠ p2 := ne_of_none hl2 hp2
          refine eq_nil (ys := (longs 0 (partsT (tl x))).map S) (SqL.of (by rw [upd_ne hDp]; exact hD2)) (SqL.of upd_same) hstr ?_
          refine ⟨_, rfl, ?_⟩
          have hmap : decide ((longs 0 (partsT (tl x))).map S = []) = decide (longs 0 (partsT (tl x)) = []) := by
            cases longs 0 (partsT (tl x)) <;> rfl
          rw [hmap]
          cases hz : decide (longs 0 (partsT (tl x)) = []) with
          | false =>
            rw [hz] at hT'
            rw [if_neg (by decide)]
            exact hT' _ (sm2.trans (sameI hp2))
          | true =>
            rw [hz] at hT'
            rw [if_pos rfl]
            refine .inl ⟨_, SqL.of (by rw [upd_ne hlp]; exact hl2), fun p3 hp3 => ?_⟩
            rw [cutV_last]
            refine ⟨_, .inl (SqL.of upd_same), rfl, ?_, ?_⟩
            · rw [← List.map_dropLast, ← List.map_dropLast]
              exact flat_strs _
            · rw [← List.map_dropLast, ← List.map_dropLast, inV_strs]
              exact hT' _ ((sm2.trans (sameI hp2)).trans (sameI hp3))
    · exact h.elim
end
end K00
namespace K00
open PySem PySem.Spec PyProof.Rows L2 G
local macro_rules | `(tactic| walk_at "st") => `(tactic| simp only [L2.start, cx_K, List.length_cons, List.length_nil, List.map_cons, List.map_nil, List.replicate, List.cons_append, List.nil_append, Nat.sub_self, Nat.add_sub_cancel, Nat.reduceSub, Nat.reduceAdd, Nat.zero_add])
local macro_rules | `(tactic| walk_at "wp") => `(tactic| simp only [↓tV0, ↓gN0, ↓tV1, ↓gN1, ↓tV2, ↓gN2, ↓tV3, ↓gN3, ↓tV4, ↓gN4, ↓tV5, ↓gN5, ↓tV6, ↓gN6, ↓tV7, ↓gN7, ↓tV8, ↓gN8, ↓tV9, ↓gN9, ↓tV10, ↓gN10, ↓tV11, ↓gN11, ↓tV12, ↓gN12, ↓tV13, ↓gN13, ↓w_Ret, ↓w_RetN, ↓w_C, ↓w_Op, ↓w_Un, ↓w_UnI, ↓w_Asg, ↓w_Seq, ↓w_IfS, ↓w_Next, ↓w_Drop, ↓w_CB, ↓w_Call, ↓w_Nil, ↓w_Cons, ↓w_NoPart, ↓w_Part, ↓w_Sl, ↓w_Test, ↓w_And, ↓w_Or, ↓w_Not, ↓w_AndV, ↓w_OrV, ↓w_NotV, ↓w_If, ↓w_Chain, ↓w_TruG, ↓w_TruB, ↓w_TruI, ↓w_TruN, ↓w_Tup, ↓w_Lst, ↓w_Par, ↓w_Sub, ↓w_M1, ↓w_BM, ↓w_ReplC, ↓w_RaiseC, ↓w_Fmt02, ↓w_FmtG, ↓w_FmtS, ↓w_FmtI, ↓o_AddII, ↓o_AddSS, ↓o_AddRR, ↓o_SubII, ↓o_MulII, ↓o_MulSI, ↓o_ModII, ↓o_DivII, ↓o_PowII, ↓o_LtII, ↓o_LtSS, ↓o_LeII, ↓o_LeSS, ↓o_GtII, ↓o_GtSS, ↓o_GeII, ↓o_GeSS, ↓o_EqII, ↓o_EqSS, ↓o_EqBB, ↓o_EqRR, ↓o_NeII, ↓o_NeSS, ↓o_NeBB, ↓o_NeRR, ↓o_InR, ↓o_InS, ↓o_IxS, ↓o_IxR, ↓o_SlS, ↓o_SlR, ↓o_LenS, ↓o_LenR, ↓o_IntI, ↓o_IntB, ↓o_IntS, ↓o_Abs, ↓o_Max, ↓o_Min, ↓o_Str, ↓o_Divmod, ↓x_Bl, ↓x_Int, ↓x_Str, ↓x_Ref, ↓x_StrT, ↓w_For, ↓w_Lc, ↓w_iEnum, ↓w_iZipG, ↓w_iList, ↓w_iTup, ↓w_iStr, ↓w_iR1, ↓w_iR2, cx_K, wipe, tYes, gCons_c, gNil_c, S_cat, S_nil, len_S, List.length_append, dig2_len, toS_nat, lit_colon, lit_dash, lit_e, L2.start, List.length_cons, List.length_nil, List.map_cons, List.map_nil, List.replicate, List.cons_append, List.nil_append, List.append_nil, List.getElem?_cons_zero, List.getElem?_cons_succ, Option.some.injEq, exists_eq_left', exists_eq_left, exists_eq', V.int.injEq, V.bl.injEq, V.str.injEq, V.ref.injEq, List.cons.injEq, List.set_cons_zero, List.set_cons_succ, Nat.sub_self, Nat.add_sub_cancel, Nat.zero_add, Nat.reduceSub, Nat.reduceAdd, Bool.false_eq_true, reduceIte, exN_iff, dec1, and_true, true_and, isi_ii, isi_ib, isi_ss, Bool.not_true, Bool.not_false, tNever, tJs, rNewStrs, Int.natAbs_natCast])
section
variable {P : Program} {w : World} {K : PySem.W.Frag} {mg : Str → Option Value} {base : Heap} {C_ParseError : Addr}

theorem pcs_ne (t acc : List Nat) : pcs acc t ≠ [] := by
  cases t with
  | nil => simp [pcs]
  | cons d r =>
    rw [pcs]
    split
    · simp
    · exact pcs_ne r (acc ++ [d])
termination_by t.length
theorem pcs_nosep : ∀ (t acc : List Nat) (p : List Nat), p ∈ pcs acc t → ∀ c ∈ p, c ∈ acc ∨ (c ∈ t ∧ c ≠ 45 ∧ c ≠ 58)
  | [], acc, p, h, c, hc => by
    simp [pcs] at h
    subst h
    exact .inl hc
  | d :: r, acc, p, h, c, hc => by
    rw [pcs] at h
    split at h
    · rcases List.mem_cons.mp h with h | h
      · subst h
        exact .inl hc
      · rcases pcs_nosep r [] p h c hc with q | q
        · cases q
        · exact .inr ⟨List.mem_cons_of_mem _ q.1, q.2⟩
    · rename_i hd
      rcases pcs_nosep r (acc ++ [d]) p h c hc with q | q
      · rcases List.mem_append.mp q with q | q
        · exact .inl q
        · rw [List.mem_singleton.mp q]
          exact .inr ⟨List.mem_cons_self .., fun e => hd (.inl e), fun e => hd (.inr e)⟩
      · exact .inr ⟨List.mem_cons_of_mem _ q.1, q.2⟩
theorem okSigns_mem {s : List Nat} (h : okSigns s = true) : (∀ c ∈ s, c = 45 ∨ c = 58) ∧ (s.length ≤ 2 ∨ s.take 1 = [45] ∧ s.length ≤ 3) := by
  unfold okSigns at h
  rw [Bool.or_eq_true, decide_eq_true_eq, decide_eq_true_eq] at h
  rcases h with h | h
  · refine ⟨fun c hc => ?_, .inl h.length_le⟩
    have := h.subset hc
    simp at this
    exact .inr this
  · refine ⟨fun c hc => ?_, ?_⟩
    · have := h.subset hc
      simp at this
      exact this
    · have hl := h.length_le
      rw [List.prefix_iff_eq_take] at h
      cases s with
      | nil => exact .inl (by simp)
      | cons a s =>
        refine .inr ⟨?_, hl⟩
        simp at h
        rw [h.1]
        rfl
theorem good_parts {t : List Nat} (h : okSigns (signsT t) = true) : ∀ p ∈ partsT t, p.all isD = true := fun p hp => by
  refine List.all_eq_true.mpr fun c hc => ?_
  rcases pcs_nosep t [] p hp c hc with q | q
  · cases q
  · cases hd : isD c with
    | true => rfl
    | false =>
      have hm : c ∈ signsT t := List.mem_filter.mpr ⟨q.1, by rw [hd]; rfl⟩
      rcases (okSigns_mem h).1 c hm with e | e
      · exact absurd e q.2.1
      · exact absurd e q.2.2
theorem goes_all {t : List Nat} (h : goesT t = true) (hl : (partsT t).getLast? ≠ some []) : okSigns (signsT t) = true ∧ ∀ p ∈ partsT t, p ≠ [] := by
  unfold goesT at h
  rw [Bool.and_eq_true, Bool.and_eq_true] at h
  obtain ⟨h1, _, h2⟩ := h
  refine ⟨h1, fun p hp e => ?_⟩
  subst e
  have h3 : ¬ ([] : List Nat) ∈ (partsT t).dropLast := by
    intro z
    rw [decide_eq_true z] at h2
    cases h2
  have hne : partsT t ≠ [] := pcs_ne t []
  rw [← List.dropLast_concat_getLast hne] at hp
  rcases List.mem_append.mp hp with q | q
  · exact h3 q
  · refine hl ?_
    rw [List.getLast?_eq_some_getLast hne, List.mem_singleton.mp q]
theorem parts_int {t p : List Nat} (ok : okSigns (signsT t) = true) (hp : p ∈ partsT t) (hne : p ≠ []) (hl : t.length ≤ 600) : PySem.intText? (S p) = some ((valD p : Nat) : Int) ∧ (S p).length ≤ 640 := by
  have h := pcs_short t [] p hp
  rw [List.length_nil] at h
  exact ⟨SX.int_S (good_parts ok p hp) hne (by omega), by rw [len_S]; omega⟩
def failF (t : List Nat) : Nat → Nat → Option Nat
  | 0, _ => none
  | f + 1, i => if goesT (t.take (i + 1)) = false then some i else failF t f (i + 1)
theorem failF_none {t : List Nat} : t ≠ [] → failF t t.length 0 = none → goesT t = true := by
  have key : ∀ f i, failF t f i = none → ∀ j, i ≤ j → j < i + f → goesT (t.take (j + 1)) = true := by
    intro f
    induction f with
    | zero => intro i _ j h1 h2; omega
    | succ f ih =>
      intro i h j h1 h2
      rw [failF] at h
      by_cases hg : goesT (t.take (i + 1)) = false
      · rw [if_pos hg] at h
        cases h
      · rw [if_neg hg] at h
        by_cases e : j = i
        · subst e
          exact eq_true_of_ne_false hg
        · exact ih (i + 1) h j (by omega) (by omega)
  intro hne h
  have hp : 0 < t.length := List.length_pos_iff.mpr hne
  have := key t.length 0 h (t.length - 1) (Nat.zero_le _) (by omega)
  rwa [show t.length - 1 + 1 = t.length by omega, List.take_length] at this
def badP (hd : Bool) : Nat → Nat → List (List Nat) → Option Nat
  | _, _, [] => none
  | i, s, p :: r => if (if i = 1 ∧ hd = true then 24 else 60) ≤ valD p then some s else badP hd (i + 1) (s + p.length + 1) r
def hdS (t : List Nat) : Bool := decide ((signsT t).take 1 = [45])
def unitsL (t : List Nat) : List Nat := if hdS t = true then [86400, 3600, 60, 1] else if (signsT t).length = 0 then [60] else if (signsT t).length = 1 then [60, 1] else [3600, 60, 1]
def sumP : List Nat → List (List Nat) → Nat
  | w :: ws, p :: r => w * valD p + sumP ws r
  | _, _ => 0
def prodP : List Nat → List (List Nat) → List Int
  | w :: ws, p :: r => (w : Int) * (valD p : Nat) :: prodP ws r
  | _, _ => []
theorem prodP_sum : ∀ ws ns, (prodP ws ns).sum = ((sumP ws ns : Nat) : Int)
  | [], _ => by simp [prodP, sumP]
  | _ :: _, [] => by simp [prodP, sumP]
  | w :: ws, p :: r => by simp [prodP, sumP, prodP_sum ws r]
theorem prodP_len : ∀ ws ns, (prodP ws ns).length = min ws.length ns.length
  | [], _ => by simp [prodP]
  | _ :: _, [] => by simp [prodP]
  | w :: ws, p :: r => by simp only [prodP, List.length_cons, prodP_len ws r]; omega
theorem prodP_at : ∀ ws ns (i w : Nat) (p : List Nat), ws[i]? = some w → ns[i]? = some p → (prodP ws ns)[i]? = some ((w : Int) * (valD p : Nat))
  | [], _, i, w, p, h, _ => by simp at h
  | _ :: _, [], i, w, p, _, h => by simp at h
  | w0 :: ws, p0 :: r, 0, w, p, h, h2 => by
    simp at h h2
    simp [prodP, h, h2]
  | w0 :: ws, p0 :: r, i + 1, w, p, h, h2 => by
    simp at h h2
    simp [prodP, prodP_at ws r i w p h h2]
def dueR (t : List Nat) : Sum Nat Nat := match failF t t.length 0 with
  | some i => .inl i
  | none => if (partsT t).getLast? = some [] then .inl t.length else
    match badP (hdS t) 1 (((partsT t).headD []).length + 1) (partsT t).tail with
    | some s => .inl s
    | none => if sumP (unitsL t) (partsT t) ≤ 1000000 then .inr (sumP (unitsL t) (partsT t)) else .inl t.length
def told (v : Sum Nat Nat) : List V := match v with
  | .inl n => [.str (Str.ofString "spot"), .int (n : Nat)]
  | .inr n => [.str (Str.ofString "ticks"), .int (n : Nat)]
def sp__law_due (K : PySem.W.Frag) : Sp := fun vs H Q _ => match vs with
  | [.str x] => Fine x ∧ ∀ p H', Same H H' → H p = none → H' p = some (.tup (told (dueR (tl x)))) → Q (.ref p) H'
  | _ => False
theorem c__law_due {f : Addr} {fd : FuncData} (T : Txt K mg) (F : Fun K "_law_due" "_law_due" s__law_due f fd) (hm : mg "_law_due" = some (.ref f)) (C__law_parts : CallOk P w K mg base "_law_parts" 1 ["text"] (sp__law_parts K)) (C__law_goes_on : CallOk P w K mg base "_law_goes_on" 2 ["text"] (sp__law_goes_on K)) : CallOk P w K mg base "_law_due" 3 ["text"] (sp__law_due K) := by
  refine ⟨f, fd, hm, F.kp, F.binds (ps := ["text"]) (fun _ _ _ _ _ _ us hl => match us, hl with | [_], _ => rfl), F.okX sc__law_due (fun vs H Q E h => ?_) (fun cdv A outer s H vs Q E hr h => ⟨_, (pss_cons (ps_for (passes_of rfl) rfl (pi_range1 (by rfl) T.n_range (pa_cons (pe_callB call_lenG (by rfl) T.n_len (by decide +kernel) (pa_cons (pv 0) pa_nil)) pa_nil)) (pg_name (i := 1) sc__law_due.nd rfl (Or.inl rfl)) (pss_one (ps_if (pt_not (pt_truG (pe_c0 C__law_goes_on (hr.mono (by decide)) (pa_cons (pe_slice sl_G (pv 0) po_none (po_some (pe_op op_addG (pv 1) pe_int))) pa_nil)))) (pss_one (ps_ret (pe_tup (pa_cons pe_str (pa_cons (pv 1) pa_nil))))) pss_nil)))
      (pss_cons (ps_asg (pe_c0 C__law_parts (hr.mono (by decide)) (pa_cons (pv 0) pa_nil)) (pg_lst rfl (pgs_cons (pg_name (i := 2) sc__law_due.nd rfl (Or.inl rfl)) (pgs_cons (pg_name (i := 3) sc__law_due.nd rfl (Or.inl rfl)) pgs_nil))))
      (pss_cons (ps_if (pt_cmpR (op_eqG hr.units) (pe_ix ix_G (pv 2) (pe_un un_neg pe_int) (fun _ _ => rfl)) pe_str (nomark _)) (pss_one (ps_ret (pe_tup (pa_cons pe_str (pa_cons (pe_callB call_lenG (by rfl) T.n_len (by decide +kernel) (pa_cons (pv 0) pa_nil)) pa_nil))))) pss_nil)
      (pss_cons (ps_set (i := 4) sc__law_due.nd rfl (Or.inl rfl) (pe_op op_addG (pe_callB call_lenG (by rfl) T.n_len (by decide +kernel) (pa_cons (pe_ix ix_G (pv 2) pe_int (fun _ _ => rfl)) pa_nil)) pe_int))
      (pss_cons (ps_for (passes_of rfl) rfl (pi_range2 (by rfl) T.n_range (pa_cons pe_int (pa_cons (pe_callB call_lenG (by rfl) T.n_len (by decide +kernel) (pa_cons (pv 2) pa_nil)) pa_nil))) (pg_name (i := 1) sc__law_due.nd rfl (Or.inl rfl)) (pss_cons (ps_if (pt_cmpR op_geG (pe_callTy call_intG (by rfl) T.n_int (by decide +kernel) (pa_cons (pe_ix ix_G (pv 2) (pv 1) (fun _ _ => rfl)) pa_nil)) (pe_ifExp (PW.pt (pw_and (pt_cmpR (op_eqG hr.units) (pv 1) pe_int (nomark _)) (pw_and1 (pt_cmpR (op_eqG hr.units) (pe_slice sl_G (pv 3) po_none (po_some pe_int)) pe_str (nomark _))))) pe_int pe_int) (nomark _)) (pss_one (ps_ret (pe_tup (pa_cons pe_str (pa_cons (pv 4) pa_nil))))) pss_nil)
      (pss_one (ps_set (i := 4) sc__law_due.nd rfl (Or.inl rfl) (pe_op op_addG (pe_op op_addG (pv 4) (pe_callB call_lenG (by rfl) T.n_len (by decide +kernel) (pa_cons (pe_ix ix_G (pv 2) (pv 1) (fun _ _ => rfl)) pa_nil))) pe_int)))))
      (pss_cons (ps_set (i := 5) sc__law_due.nd rfl (Or.inl rfl) (pe_ifExp (pt_cmpR (op_eqG hr.units) (pe_slice sl_G (pv 3) po_none (po_some pe_int)) pe_str (nomark _)) (pe_lst (pa_cons pe_int (pa_cons pe_int (pa_cons pe_int (pa_cons pe_int pa_nil))))) (pe_ix ix_G (pe_lst (pa_cons (pe_lst (pa_cons pe_int pa_nil)) (pa_cons (pe_lst (pa_cons pe_int (pa_cons pe_int pa_nil))) (pa_cons (pe_lst (pa_cons pe_int (pa_cons pe_int (pa_cons pe_int pa_nil)))) pa_nil)))) (pe_callB call_lenG (by rfl) T.n_len (by decide +kernel) (pa_cons (pv 3) pa_nil)) (fun _ _ => rfl))))
      (pss_cons (ps_set (i := 6) sc__law_due.nd rfl (Or.inl rfl) (pe_callB (cr_sum rfl) (by rfl) T.n_sum (by decide +kernel) (pa_cons (pe_lc (own := [("unit", 7), ("part", 8)]) (g := (gTup K 2 (gCons (gName 7) (gCons (gName 8) gNil)))) rfl sc__law_due.nd (pi_zipG (k1 := true) (k2 := true) (by rfl) T.n_zip (pa_cons (pv 5) (pa_cons (pv 2) pa_nil))) (blkOk_by (own := [("unit", 7), ("part", 8)]) (N := ["text", "at", "parts", "signs", "spot", "units", "total", "unit", "part"]) (sc := defScope s__law_due) (by decide +kernel)) (fun _ _ _ _ _ => (pg_tup rfl (pgs_cons (pg_name (i := 7) sc__law_due.nd rfl (Or.inl rfl)) (pgs_cons (pg_name (i := 8) sc__law_due.nd rfl (Or.inl rfl)) pgs_nil)))) (fun _ _ _ _ _ => pts_nil) (fun _ _ _ _ _ => (pe_op op_mulG (pv 7) (pe_callTy call_intG (by rfl) T.n_int (by decide +kernel) (pa_cons (pv 8) pa_nil))))) pa_nil)))
      (pss_one (ps_ret (pe_ifExp (pt_cmpR op_leG (pv 6) pe_int (nomark _)) (pe_tup (pa_cons pe_str (pa_cons (pv 6) pa_nil))) (pe_tup (pa_cons pe_str (pa_cons (pe_callB call_lenG (by rfl) T.n_len (by decide +kernel) (pa_cons (pv 0) pa_nil)) pa_nil))))))))))))), ?_⟩)⟩
  · revert h
    unfold sp__law_due
    split <;> intro h <;> first | rfl | exact False.elim h
  · unfold sp__law_due at h
    split at h
    · walk_at "st"
      rename_i x
      obtain ⟨hF, q⟩ := h
      obtain ⟨hx, hc⟩ := id hF
      walk_at "wp"
      refine ⟨line_of (by omega), by omega, by omega, ?_⟩
      rw [Int.toNat_natCast]
      have qf : ∀ i, failF (tl x) (tl x).length 0 = some i → ∀ p H', Same H H' → H p = none → H' p = some (.tup [.str (Str.ofString "spot"), .int (i : Nat)]) → Q (.ref p) H' := fun i hi => by
        unfold dueR at q
        rw [hi] at q
        exact q
      refine Loop.by (walk_range (lo := 0) (n := x.length)) (fun i σ H' => Same H H' ∧ (∃ s1, σ = [some (V.str x), s1, none, none, none, none, none, none, none]) ∧ failF (tl x) ((tl x).length - i) i = failF (tl x) (tl x).length 0)
        ⟨Same.refl _, ⟨none, rfl⟩, rfl⟩ (fun _ _ _ _ _ => trivial) ?_ ?_
      · rintro i y σ H1 H2 hi ⟨sm, ⟨s1, rfl⟩, hf⟩ ⟨rfl, rfl⟩
        simp only [↓sp__law_goes_on, ↓tV0, ↓gN0, ↓tV1, ↓gN1, ↓tV2, ↓gN2, ↓tV3, ↓gN3, ↓tV4, ↓gN4, ↓tV5, ↓gN5, ↓tV6, ↓gN6, ↓tV7, ↓gN7, ↓tV8, ↓gN8, ↓tV9, ↓gN9, ↓tV10, ↓gN10, ↓tV11, ↓gN11, ↓tV12, ↓gN12, ↓tV13, ↓gN13, ↓w_Ret, ↓w_RetN, ↓w_C, ↓w_Op, ↓w_Un, ↓w_UnI, ↓w_Asg, ↓w_Seq, ↓w_IfS, ↓w_Next, ↓w_Drop, ↓w_CB, ↓w_Call, ↓w_Nil, ↓w_Cons, ↓w_NoPart, ↓w_Part, ↓w_Sl, ↓w_Test, ↓w_And, ↓w_Or, ↓w_Not, ↓w_AndV, ↓w_OrV, ↓w_NotV, ↓w_If, ↓w_Chain, ↓w_TruG, ↓w_TruB, ↓w_TruI, ↓w_TruN, ↓w_Tup, ↓w_Lst, ↓w_Par, ↓w_Sub, ↓w_M1, ↓w_BM, ↓w_ReplC, ↓w_RaiseC, ↓w_Fmt02, ↓w_FmtG, ↓w_FmtS, ↓w_FmtI, ↓o_AddII, ↓o_AddSS, ↓o_AddRR, ↓o_SubII, ↓o_MulII, ↓o_MulSI, ↓o_ModII, ↓o_DivII, ↓o_PowII, ↓o_LtII, ↓o_LtSS, ↓o_LeII, ↓o_LeSS, ↓o_GtII, ↓o_GtSS, ↓o_GeII, ↓o_GeSS, ↓o_EqII, ↓o_EqSS, ↓o_EqBB, ↓o_EqRR, ↓o_NeII, ↓o_NeSS, ↓o_NeBB, ↓o_NeRR, ↓o_InR, ↓o_InS, ↓o_IxS, ↓o_IxR, ↓o_SlS, ↓o_SlR, ↓o_LenS, ↓o_LenR, ↓o_IntI, ↓o_IntB, ↓o_IntS, ↓o_Abs, ↓o_Max, ↓o_Min, ↓o_Str, ↓o_Divmod, ↓x_Bl, ↓x_Int, ↓x_Str, ↓x_Ref, ↓x_StrT, ↓w_For, ↓w_Lc, ↓w_iEnum, ↓w_iZipG, ↓w_iList, ↓w_iTup, ↓w_iStr, ↓w_iR1, ↓w_iR2, cx_K, wipe, tYes, gCons_c, gNil_c, S_cat, S_nil, len_S, List.length_append, dig2_len, toS_nat, lit_colon, lit_dash, lit_e, L2.start, List.length_cons, List.length_nil, List.map_cons, List.map_nil, List.replicate, List.cons_append, List.nil_append, List.append_nil, List.getElem?_cons_zero, List.getElem?_cons_succ, Option.some.injEq, exists_eq_left', exists_eq_left, exists_eq', V.int.injEq, V.bl.injEq, V.str.injEq, V.ref.injEq, List.cons.injEq, List.set_cons_zero, List.set_cons_succ, Nat.sub_self, Nat.add_sub_cancel, Nat.zero_add, Nat.reduceSub, Nat.reduceAdd, Bool.false_eq_true, reduceIte, exN_iff, dec1, and_true, true_and, isi_ii, isi_ib, isi_ss, Bool.not_true, Bool.not_false, tNever, tJs, rNewStrs, Int.natAbs_natCast]
        have ecut : tl (cutS x none (some (0 + (i : Int) + 1))) = (tl x).take (i + 1) := by
          have := tl_cut0 x (i + 1)
          rwa [show (((i + 1 : Nat) : Int)) = 0 + (i : Int) + 1 by omega] at this
        have hf2 : failF (tl x) ((tl x).length - i) i = if goesT ((tl x).take (i + 1)) = false then some i else failF (tl x) ((tl x).length - (i + 1)) (i + 1) := by
          have e : (tl x).length - i = ((tl x).length - (i + 1)) + 1 := by
            rw [← len_tl]
            omega
          rw [e, failF]
        refine ⟨line_of (by omega), ⟨?_, fun c h => hc c ?_⟩, fun H3 sm3 => ?_⟩
        · rw [len_tl, ecut, List.length_take, ← len_tl]
          omega
        · rw [ecut] at h
          exact List.mem_of_mem_take h
        · rw [ecut]
          rw [hf2] at hf
          cases hg : goesT ((tl x).take (i + 1)) with
          | false =>
            rw [hg, if_pos rfl] at hf
            rw [if_pos (by decide)]
            refine ⟨by decide, fun p hp => ?_⟩
            have h0 : (0 : Int) + (i : Int) = (i : Int) := by omega
            rw [h0]
            exact qf i hf.symm p _ ((sm.trans sm3).trans (sameI hp)) ((sm.trans sm3).free hp) upd_same
          | true =>
            rw [hg, if_neg (by decide)] at hf
            rw [if_neg (by decide)]
            exact ⟨sm.trans sm3, hf⟩
      · rintro σ H1 ⟨sm, ⟨s1, rfl⟩, hf⟩
        rw [show (tl x).length - x.length = 0 by rw [← len_tl]; omega, failF] at hf
        have hfn : failF (tl x) (tl x).length 0 = none := hf.symm
        have hgo : tl x ≠ [] → goesT (tl x) = true := fun hne => failF_none hne hfn
        unfold dueR at q
        rw [hfn] at q
        dsimp only at q
        clear qf
        simp only [↓sp__law_parts, ↓tV0, ↓gN0, ↓tV1, ↓gN1, ↓tV2, ↓gN2, ↓tV3, ↓gN3, ↓tV4, ↓gN4, ↓tV5, ↓gN5, ↓tV6, ↓gN6, ↓tV7, ↓gN7, ↓tV8, ↓gN8, ↓tV9, ↓gN9, ↓tV10, ↓gN10, ↓tV11, ↓gN11, ↓tV12, ↓gN12, ↓tV13, ↓gN13, ↓w_Ret, ↓w_RetN, ↓w_C, ↓w_Op, ↓w_Un, ↓w_UnI, ↓w_Asg, ↓w_Seq, ↓w_IfS, ↓w_Next, ↓w_Drop, ↓w_CB, ↓w_Call, ↓w_Nil, ↓w_Cons, ↓w_NoPart, ↓w_Part, ↓w_Sl, ↓w_Test, ↓w_And, ↓w_Or, ↓w_Not, ↓w_AndV, ↓w_OrV, ↓w_NotV, ↓w_If, ↓w_Chain, ↓w_TruG, ↓w_TruB, ↓w_TruI, ↓w_TruN, ↓w_Tup, ↓w_Lst, ↓w_Par, ↓w_Sub, ↓w_M1, ↓w_BM, ↓w_ReplC, ↓w_RaiseC, ↓w_Fmt02, ↓w_FmtG, ↓w_FmtS, ↓w_FmtI, ↓o_AddII, ↓o_AddSS, ↓o_AddRR, ↓o_SubII, ↓o_MulII, ↓o_MulSI, ↓o_ModII, ↓o_DivII, ↓o_PowII, ↓o_LtII, ↓o_LtSS, ↓o_LeII, ↓o_LeSS, ↓o_GtII, ↓o_GtSS, ↓o_GeII, ↓o_GeSS, ↓o_EqII, ↓o_EqSS, ↓o_EqBB, ↓o_EqRR, ↓o_NeII, ↓o_NeSS, ↓o_NeBB, ↓o_NeRR, ↓o_InR, ↓o_InS, ↓o_IxS, ↓o_IxR, ↓o_SlS, ↓o_SlR, ↓o_LenS, ↓o_LenR, ↓o_IntI, ↓o_IntB, ↓o_IntS, ↓o_Abs, ↓o_Max, ↓o_Min, ↓o_Str, ↓o_Divmod, ↓x_Bl, ↓x_Int, ↓x_Str, ↓x_Ref, ↓x_StrT, ↓w_For, ↓w_Lc, ↓w_iEnum, ↓w_iZipG, ↓w_iList, ↓w_iTup, ↓w_iStr, ↓w_iR1, ↓w_iR2, cx_K, wipe, tYes, gCons_c, gNil_c, S_cat, S_nil, len_S, List.length_append, dig2_len, toS_nat, lit_colon, lit_dash, lit_e, L2.start, List.length_cons, List.length_nil, List.map_cons, List.map_nil, List.replicate, List.cons_append, List.nil_append, List.append_nil, List.getElem?_cons_zero, List.getElem?_cons_succ, Option.some.injEq, exists_eq_left', exists_eq_left, exists_eq', V.int.injEq, V.bl.injEq, V.str.injEq, V.ref.injEq, List.cons.injEq, List.set_cons_zero, List.set_cons_succ, Nat.sub_self, Nat.add_sub_cancel, Nat.zero_add, Nat.reduceSub, Nat.reduceAdd, Bool.false_eq_true, reduceIte, exN_iff, dec1, and_true, true_and, isi_ii, isi_ib, isi_ss, Bool.not_true, Bool.not_false, tNever, tJs, rNewStrs, Int.natAbs_natCast]
        refine ⟨hx, fun p l H2 sm2 hp hl hpl hp2 hl2 => ?_⟩
        refine gLst_of hp2 rfl ?_
        have hPne : partsT (tl x) ≠ [] := pcs_ne _ _
        have hPcat := (List.dropLast_concat_getLast hPne).symm
        have hlast : (partsT (tl x)).getLast? = some ((partsT (tl x)).getLast hPne) := List.getLast?_eq_some_getLast hPne
        rw [hlast] at q
        walk_at "wp"
        refine ⟨_, V.str (S ((partsT (tl x)).getLast hPne)), .inl (SqL.of hl2), ?_, ?_⟩
        · have e : ((partsT (tl x)).map S).map V.str = (((partsT (tl x)).dropLast).map S).map V.str ++ [V.str (S ((partsT (tl x)).getLast hPne))] := by
            conv => lhs; rw [hPcat]
            rw [List.map_append, List.map_append]
            rfl
          rw [e]
          exact atI_last _ _
        · walk_at "wp"
          by_cases hl0 : (partsT (tl x)).getLast hPne = []
          · rw [if_pos (congrArg some hl0)] at q
            rw [if_pos (decide_eq_true (by rw [hl0]))]
            refine ⟨line_of (by omega), by decide, fun p hp => ?_⟩
            rw [len_tl]
            exact q p _ ((sm.trans sm2).trans (sameI hp)) ((sm.trans sm2).free hp) upd_same
          · rw [if_neg (by intro z; exact hl0 (Option.some.inj z))] at q
            rw [if_neg (by intro z; exact hl0 (of_decide_eq_true z))]
            have htne : tl x ≠ [] := fun z => by
              have e1 : partsT (tl x) = [[]] := by rw [z]; rfl
              have e2 : some ((partsT (tl x)).getLast hPne) = some [] := by rw [← hlast, e1]; rfl
              exact hl0 (Option.some.inj e2)
            obtain ⟨hok, hall⟩ := goes_all (hgo htne) (by rw [hlast]; intro z; exact hl0 (Option.some.inj z))
            have hint : ∀ p ∈ partsT (tl x), PySem.intText? (S p) = some ((valD p : Nat) : Int) ∧ (S p).length ≤ 640 := fun p hp => parts_int hok hp (hall p hp) (by rw [← len_tl]; exact hx)
            have hlens : ∀ p ∈ partsT (tl x), p.length ≤ 600 := fun p hp => by
              have := pcs_short (tl x) [] p hp
              rw [← len_tl, List.length_nil] at this
              omega
            have hPl : (partsT (tl x)).length ≤ 601 := by
              have := pcs_len (tl x) []
              rw [← len_tl] at this
              exact Nat.le_trans this (by omega)
            have hsig := okSigns_mem hok
            have hsigl : (signsT (tl x)).length ≤ 3 := by
              rcases hsig.2 with h | h
              · omega
              · exact h.2
            clear hgo hlast hPcat
            obtain ⟨p0, Pr, hP⟩ : ∃ p0 Pr, partsT (tl x) = p0 :: Pr := by
              cases hz : partsT (tl x) with
              | nil => exact absurd hz hPne
              | cons a b => exact ⟨a, b, rfl⟩
            clear hl0
            clear hPne
            rw [hP] at q hint hlens hPl hl2
            simp only [List.headD_cons, List.tail_cons] at q
            have hi0 := hlens p0 (List.mem_cons_self ..)
            have hhd : decide (tl (cutS (S (signsT (tl x))) none (some 1)) = tl (S [45])) = hdS (tl x) := by
              have := tl_cut0 (S (signsT (tl x))) 1
              rw [show ((1 : Nat) : Int) = 1 from rfl] at this
              rw [this]
              rfl
            refine ⟨_, V.str (S p0), .inl (SqL.of hl2), (show atI _ ((0 : Nat) : Int) = _ from atI_nat rfl), ?_⟩
            walk_at "wp"
            refine ⟨line_of (by omega), _, .inl (SqL.of hl2), iR2_of ⟨by decide, by decide, by omega, by simp only [List.length_map, List.length_cons] at hPl ⊢; omega⟩ ?_⟩
            have hn : (((((p0 :: Pr).map S).map V.str).length : Nat) - (1 : Int)).toNat = Pr.length := by
              simp only [List.length_map, List.length_cons]
              omega
            rw [hn]
            have sm3 := sm.trans sm2
            refine Loop.by (walk_range (lo := 1) (n := Pr.length)) (fun i σ H' => Same H H' ∧ H' l = some (.lst (((p0 :: Pr).map S).map V.str)) ∧ ∃ (s1 : Option V) (spot : Nat),
              σ = [some (V.str x), s1, some (V.ref l), some (V.str (S (signsT (tl x)))), some (V.int (spot : Nat)), none, none, none, none] ∧ badP (hdS (tl x)) (i + 1) spot (Pr.drop i) = badP (hdS (tl x)) 1 (p0.length + 1) Pr)
              ⟨sm3, hl2, s1, p0.length + 1, rfl, rfl⟩ (fun _ _ _ _ _ => trivial) ?_ ?_
            · rintro i y σ H3 H4 hi ⟨sm4, hl4, s1', spot, rfl, hb⟩ ⟨rfl, rfl⟩
              walk_at "wp"
              have hpm : Pr[i] ∈ p0 :: Pr := List.mem_cons_of_mem _ (List.getElem_mem hi)
              have hat : atI (((p0 :: Pr).map S).map V.str) (1 + (i : Int)) = some (V.str (S Pr[i])) := by
                have : (1 + (i : Int)) = ((i + 1 : Nat) : Int) := by omega
                rw [this]
                refine atI_nat ?_
                rw [List.getElem?_map, List.getElem?_map, List.getElem?_cons_succ, List.getElem?_eq_getElem hi]
                rfl
              rw [List.drop_eq_getElem_cons hi, badP] at hb
              have hli := hlens _ hpm
              refine ⟨_, _, .inl (SqL.of hl4), hat, ?_⟩
              walk_at "wp"
              refine ⟨_, (hint _ hpm).1, (by have := (hint _ hpm).2; rwa [len_S] at this), ?_⟩
              rw [hhd]
              have bad : (if i + 1 = 1 ∧ hdS (tl x) = true then 24 else 60) ≤ valD Pr[i] → 2 ≤ sizeLine ∧
                  ∀ (p : Addr), H4 p = none → Q (V.ref p) (upd H4 p (HO.tup [V.str (Str.ofString "spot"), V.int (spot : Nat)])) := fun hh => by
                rw [if_pos hh] at hb
                rw [← hb] at q
                exact ⟨by decide, fun p hp => q p _ (sm4.trans (sameI hp)) (sm4.free hp) upd_same⟩
              have good : ¬ (if i + 1 = 1 ∧ hdS (tl x) = true then 24 else 60) ≤ valD Pr[i] → ∃ xs v, (SqL K H4 l xs ∨ SqT K H4 l xs) ∧ atI xs (1 + (i : Int)) = some v ∧
                  rLenG K [v] H4 fun y H2 => rAddG K (V.int (spot : Nat)) y H2 fun x_1 H1 => rAddG K x_1 (V.int 1) H1 fun x_2 H1 =>
                    Same H H1 ∧ H1 l = some (HO.lst (V.str (S p0) :: List.map V.str (List.map S Pr))) ∧ ∃ (s1 : Option V) (spot : Nat), (some (V.int (1 + (i : Int))) = s1 ∧ x_2 = V.int (spot : Nat)) ∧
                      badP (hdS (tl x)) (i + 1 + 1) spot (List.drop (i + 1) Pr) = badP (hdS (tl x)) 1 (p0.length + 1) Pr := fun hh => by
                rw [if_neg hh] at hb
                refine ⟨_, _, .inl (SqL.of hl4), hat, ?_⟩
                walk_at "wp"
                refine ⟨line_of (by omega), sm4, hl4, _, spot + Pr[i].length + 1, ⟨rfl, ?_⟩, hb⟩
                omega
              by_cases h1 : i = 0
              · rw [if_pos (decide_eq_true (by omega))]
                refine ⟨line_of (by omega), ?_⟩
                by_cases hD : hdS (tl x) = true
                · rw [if_pos hD]
                  rw [if_pos (show i + 1 = 1 ∧ hdS (tl x) = true from ⟨by omega, hD⟩)] at bad good
                  by_cases hv : 24 ≤ valD Pr[i]
                  · rw [if_pos (decide_eq_true (by omega))]; exact bad hv
                  · rw [if_neg (by intro z; have := of_decide_eq_true z; omega)]; exact good hv
                · rw [if_neg hD]
                  rw [if_neg (show ¬ (i + 1 = 1 ∧ hdS (tl x) = true) from fun z => hD z.2)] at bad good
                  by_cases hv : 60 ≤ valD Pr[i]
                  · rw [if_pos (decide_eq_true (by omega))]; exact bad hv
                  · rw [if_neg (by intro z; have := of_decide_eq_true z; omega)]; exact good hv
              · rw [if_neg (by intro z; have := of_decide_eq_true z; omega)]
                rw [if_neg (show ¬ (i + 1 = 1 ∧ hdS (tl x) = true) from fun z => h1 (by omega))] at bad good
                by_cases hv : 60 ≤ valD Pr[i]
                · rw [if_pos (decide_eq_true (by omega))]; exact bad hv
                · rw [if_neg (by intro z; have := of_decide_eq_true z; omega)]; exact good hv
            · rintro σ H3 ⟨sm4, hl4, s1', spot, rfl, hb⟩
              rw [List.drop_length, badP] at hb
              rw [← hb] at q
              dsimp only at q
              walk_at "wp"
              rw [hhd]
              have key : ∀ (W : List Nat) (H5 : Hp) (u : Addr), W.length ≤ 4 → (∀ w ∈ W, w < 100000) → Same H H5 → H5 l = some (.lst (((p0 :: Pr).map S).map V.str)) → H5 u = some (.lst ((W.map (fun n : Nat => (n : Int))).map V.int)) → unitsL (tl x) = W → ∀ D, H5 D = none →
                  LoopC (ItzG K true true u l) (gTup K 2 (gCons (gName 7) (gCons (gName 8) gNil))) tYes (tOp rMulG (tVar 7) (tCB rIntG (tCons (tVar 8) tNil))) [7, 8]
                    [some (V.str x), s1', some (V.ref l), some (V.str (S (signsT (tl x)))), some (V.int (spot : Nat)), some (V.ref u), none, none, none] H5 D fun H1 =>
                      rSum K [V.ref D] H1 fun x_1 H1 => rLeG x_1 (V.int 1000000) H1 fun x_2 H1 => ∃ k, x_2 = V.bl k ∧
                        if k = true then 2 ≤ sizeLine ∧ ∀ (p : Addr), H1 p = none → Q (V.ref p) (upd H1 p (HO.tup [V.str (Str.ofString "ticks"), x_1]))
                        else x.length ≤ sizeLine ∧ 2 ≤ sizeLine ∧ ∀ (p : Addr), H1 p = none → Q (V.ref p) (upd H1 p (HO.tup [V.str (Str.ofString "spot"), V.int (x.length : Nat)])) := by
                intro W H5 u hW4 hWs sm5 hl5 hu5 hW D hD
                rw [hW] at q
                have hlD : l ≠ D := ne_of_none hl5 hD
                have huD : u ≠ D := ne_of_none hu5 hD
                have hD0 : H D = none := sm5.free hD
                refine LoopC.by (walk_zipG (xs := (W.map (fun n : Nat => (n : Int))).map V.int) (ys := ((p0 :: Pr).map S).map V.str) rfl) (fun i H' => Same H H' ∧ H' l = some (.lst (((p0 :: Pr).map S).map V.str)) ∧
                  H' u = some (.lst ((W.map (fun n : Nat => (n : Int))).map V.int)) ∧ H' D = some (.lst (((prodP W (p0 :: Pr)).take i).map V.int)))
                  ⟨sm5.trans (sameI hD), (by rw [upd_ne hlD]; exact hl5), (by rw [upd_ne huD]; exact hu5), upd_same⟩ (fun i H' _ h => ⟨isLst_of h.2.2.1, isLst_of h.2.1⟩) ?_ ?_
                · rintro i y H6 H7 hi ⟨sm6, hl6, hu6, hD6⟩ ⟨T, y1, y2, rfl, hT, rfl, e1, e2⟩
                  rw [List.length_map, List.length_map, List.length_map, List.length_map] at hi
                  have hiW : i < W.length := by omega
                  have hiP : i < (p0 :: Pr).length := by omega
                  have hwi : W[i]? = some W[i] := List.getElem?_eq_getElem hiW
                  have hpi : (p0 :: Pr)[i]? = some (p0 :: Pr)[i] := List.getElem?_eq_getElem hiP
                  have ey1 : y1 = V.int ((W[i] : Nat) : Int) := by
                    have z : ((W.map (fun n : Nat => (n : Int))).map V.int)[i]? = some y1 := e1
                    rw [List.getElem?_map, List.getElem?_map, hwi] at z
                    exact (Option.some.inj z).symm
                  have ey2 : y2 = V.str (S (p0 :: Pr)[i]) := by
                    have z : (((p0 :: Pr).map S).map V.str)[i]? = some y2 := e2
                    rw [List.getElem?_map, List.getElem?_map, hpi] at z
                    exact (Option.some.inj z).symm
                  subst ey1 ey2
                  have hpm := List.getElem_mem hiP
                  have hpr := prodP_at W (p0 :: Pr) i W[i] _ hwi hpi
                  refine gTup_of upd_same rfl ?_
                  walk_at "wp"
                  refine ⟨_, (hint _ hpm).1, (by have := (hint _ hpm).2; rwa [len_S] at this), .inl (.inl ⟨by omega, ?_⟩), ?_⟩
                  · have := hWs W[i] (List.getElem_mem hiW)
                    omega
                  · have hlt : i < (prodP W (p0 :: Pr)).length := by rw [prodP_len]; omega
                    refine ⟨_, (by rw [upd_ne (ne_of_none hD6 hT)]; exact hD6), ?_, same_mut (sm6.trans (sameI hT)) hD0, ?_, ?_, ?_⟩
                    · rw [List.length_map, List.length_take]
                      exact Nat.lt_of_lt_of_le (show _ < 100000 by omega) (by decide)
                    · rw [upd_ne hlD, upd_ne (ne_of_none hl6 hT)]; exact hl6
                    · rw [upd_ne huD, upd_ne (ne_of_none hu6 hT)]; exact hu6
                    · rw [upd_same, List.take_add_one, hpr, List.map_append]
                      rfl
                · rintro H6 ⟨sm6, hl6, hu6, hD6⟩
                  rw [List.take_of_length_le (by rw [prodP_len, List.length_map, List.length_map, List.length_map, List.length_map]; exact Nat.le_refl _)] at hD6
                  refine ⟨D, _, rfl, SqL.of hD6, ?_⟩
                  rw [prodP_sum]
                  refine ⟨_, rfl, ?_⟩
                  by_cases hbig : sumP W (p0 :: Pr) ≤ 1000000
                  · rw [if_pos hbig] at q
                    rw [if_pos (decide_eq_true (by omega))]
                    exact ⟨by decide, fun p hp => q p _ (sm6.trans (sameI hp)) (sm6.free hp) upd_same⟩
                  · rw [if_neg hbig] at q
                    rw [if_neg (by intro z; have := of_decide_eq_true z; omega)]
                    refine ⟨line_of (by omega), by decide, fun p hp => ?_⟩
                    rw [len_tl]
                    exact q p _ (sm6.trans (sameI hp)) (sm6.free hp) upd_same
              refine ⟨line_of (by omega), ?_⟩
              by_cases hD : hdS (tl x) = true
              · rw [if_pos hD]
                refine ⟨by decide, fun u hu => ⟨u, l, _, _, ⟨rfl, rfl⟩, isLst_of upd_same, isLst_of (by rw [upd_ne (ne_of_none hl4 hu)]; exact hl4), fun D hDn => ?_⟩⟩
                refine key [86400, 3600, 60, 1] _ u (by decide) (by decide) (sm4.trans (sameI hu)) (by rw [upd_ne (ne_of_none hl4 hu)]; exact hl4) upd_same ?_ D hDn
                unfold unitsL
                rw [if_pos hD]
              · rw [if_neg hD]
                have hs2 : (signsT (tl x)).length ≤ 2 := by
                  rcases hsig.2 with h | h
                  · exact h
                  · exact absurd (decide_eq_true h.1) hD
                refine ⟨by decide, fun a ha => ⟨by decide, fun b hb2 => ⟨by decide, fun c hcc => ⟨by decide, fun o ho => ⟨line_of (by omega), ?_⟩⟩⟩⟩⟩
                have sa : Same H (upd H3 a (HO.lst [V.int 60])) := sm4.trans (sameI ha)
                have sb := sa.trans (sameI (o := HO.lst [V.int 60, V.int 1]) hb2)
                have sc := sb.trans (sameI (o := HO.lst [V.int 3600, V.int 60, V.int 1]) hcc)
                have so := sc.trans (sameI (o := HO.lst [V.ref a, V.ref b, V.ref c]) ho)
                have la : upd H3 a (HO.lst [V.int 60]) l = some (.lst (((p0 :: Pr).map S).map V.str)) := by rw [upd_ne (ne_of_none hl4 ha)]; exact hl4
                have lb : upd (upd H3 a (HO.lst [V.int 60])) b (HO.lst [V.int 60, V.int 1]) l = some (.lst (((p0 :: Pr).map S).map V.str)) := by rw [upd_ne (ne_of_none la hb2)]; exact la
                have lc : upd (upd (upd H3 a (HO.lst [V.int 60])) b (HO.lst [V.int 60, V.int 1])) c (HO.lst [V.int 3600, V.int 60, V.int 1]) l = some (.lst (((p0 :: Pr).map S).map V.str)) := by rw [upd_ne (ne_of_none lb hcc)]; exact lb
                have lo : upd (upd (upd (upd H3 a (HO.lst [V.int 60])) b (HO.lst [V.int 60, V.int 1])) c (HO.lst [V.int 3600, V.int 60, V.int 1])) o (HO.lst [V.ref a, V.ref b, V.ref c]) l = some (.lst (((p0 :: Pr).map S).map V.str)) := by rw [upd_ne (ne_of_none lc ho)]; exact lc
                have ab : upd (upd H3 a (HO.lst [V.int 60])) b (HO.lst [V.int 60, V.int 1]) a = some (.lst [V.int 60]) := by rw [upd_ne (ne_of_none upd_same hb2)]; exact upd_same
                have ac : upd (upd (upd H3 a (HO.lst [V.int 60])) b (HO.lst [V.int 60, V.int 1])) c (HO.lst [V.int 3600, V.int 60, V.int 1]) a = some (.lst [V.int 60]) := by rw [upd_ne (ne_of_none ab hcc)]; exact ab
                have ao : upd (upd (upd (upd H3 a (HO.lst [V.int 60])) b (HO.lst [V.int 60, V.int 1])) c (HO.lst [V.int 3600, V.int 60, V.int 1])) o (HO.lst [V.ref a, V.ref b, V.ref c]) a = some (.lst [V.int 60]) := by rw [upd_ne (ne_of_none ac ho)]; exact ac
                have bc : upd (upd (upd H3 a (HO.lst [V.int 60])) b (HO.lst [V.int 60, V.int 1])) c (HO.lst [V.int 3600, V.int 60, V.int 1]) b = some (.lst [V.int 60, V.int 1]) := by rw [upd_ne (ne_of_none upd_same hcc)]; exact upd_same
                have bo : upd (upd (upd (upd H3 a (HO.lst [V.int 60])) b (HO.lst [V.int 60, V.int 1])) c (HO.lst [V.int 3600, V.int 60, V.int 1])) o (HO.lst [V.ref a, V.ref b, V.ref c]) b = some (.lst [V.int 60, V.int 1]) := by rw [upd_ne (ne_of_none bc ho)]; exact bc
                have co : upd (upd (upd (upd H3 a (HO.lst [V.int 60])) b (HO.lst [V.int 60, V.int 1])) c (HO.lst [V.int 3600, V.int 60, V.int 1])) o (HO.lst [V.ref a, V.ref b, V.ref c]) c = some (.lst [V.int 3600, V.int 60, V.int 1]) := by rw [upd_ne (ne_of_none upd_same ho)]; exact upd_same
                have oo : upd (upd (upd (upd H3 a (HO.lst [V.int 60])) b (HO.lst [V.int 60, V.int 1])) c (HO.lst [V.int 3600, V.int 60, V.int 1])) o (HO.lst [V.ref a, V.ref b, V.ref c]) o = some (.lst [V.ref a, V.ref b, V.ref c]) := upd_same
                generalize upd (upd (upd (upd H3 a (HO.lst [V.int 60])) b (HO.lst [V.int 60, V.int 1])) c (HO.lst [V.int 3600, V.int 60, V.int 1])) o (HO.lst [V.ref a, V.ref b, V.ref c]) = H9 at so lo ao bo co oo
                have un : unitsL (tl x) = if (signsT (tl x)).length = 0 then [60] else if (signsT (tl x)).length = 1 then [60, 1] else [3600, 60, 1] := by
                  unfold unitsL
                  rw [if_neg hD]
                by_cases h0 : (signsT (tl x)).length = 0
                · rw [if_pos h0] at un
                  refine ⟨_, V.ref a, .inl (SqL.of oo), (by rw [h0]; exact atI_nat rfl), a, l, _, _, ⟨rfl, rfl⟩, isLst_of ao, isLst_of lo, fun D hDn => ?_⟩
                  exact key [60] H9 a (by decide) (by decide) so lo ao un D hDn
                · rw [if_neg h0] at un
                  by_cases h1 : (signsT (tl x)).length = 1
                  · rw [if_pos h1] at un
                    refine ⟨_, V.ref b, .inl (SqL.of oo), (by rw [h1]; exact atI_nat rfl), b, l, _, _, ⟨rfl, rfl⟩, isLst_of bo, isLst_of lo, fun D hDn => ?_⟩
                    exact key [60, 1] H9 b (by decide) (by decide) so lo bo un D hDn
                  · rw [if_neg h1] at un
                    have h2 : (signsT (tl x)).length = 2 := by omega
                    refine ⟨_, V.ref c, .inl (SqL.of oo), (by rw [h2]; exact atI_nat rfl), c, l, _, _, ⟨rfl, rfl⟩, isLst_of co, isLst_of lo, fun D hDn => ?_⟩
                    exact key [3600, 60, 1] H9 c (by decide) (by decide) so lo co un D hDn
    · exact h.elim
end
end K00
namespace K00
open PySem PySem.Spec PyProof.Rows L2 G
/-! parts and signs, sign by sign -/
theorem isD_sep {c : Nat} (h : isD c = true) : ¬ (c = 45 ∨ c = 58) := by
  unfold isD at h
  rw [Bool.and_eq_true, decide_eq_true_eq, decide_eq_true_eq] at h
  omega
/-- digits are taken into the last part -/
theorem pcs_digs : ∀ (ds acc r : List Nat), ds.all isD = true → pcs acc (ds ++ r) = pcs (acc ++ ds) r
  | [], acc, r, _ => by rw [List.nil_append, List.append_nil]
  | c :: ds, acc, r, h => by
    rw [List.all_cons, Bool.and_eq_true] at h
    rw [List.cons_append, pcs, if_neg (isD_sep h.1), pcs_digs ds _ r h.2, List.append_assoc]
    rfl
/-- behind a separator a new part begins -/
theorem pcs_sep : ∀ (q acc : List Nat) (s : Nat) (r : List Nat), s = 45 ∨ s = 58 → pcs acc (q ++ s :: r) = pcs acc q ++ pcs [] r
  | [], acc, s, r, h => by
    rw [List.nil_append]
    show (if s = 45 ∨ s = 58 then acc :: pcs [] r else pcs (acc ++ [s]) r) = [acc] ++ pcs [] r
    rw [if_pos h]
    rfl
  | c :: q, acc, s, r, h => by
    rw [List.cons_append, pcs, pcs]
    split
    · rw [pcs_sep q [] s r h]; rfl
    · rw [pcs_sep q _ s r h]
theorem parts_digs {ds : List Nat} (h : ds.all isD = true) : partsT ds = [ds] := by
  have := pcs_digs ds [] [] h
  rw [List.append_nil, List.nil_append] at this
  exact this
theorem parts_sep {q ds : List Nat} {s : Nat} (hs : s = 45 ∨ s = 58) (h : ds.all isD = true) : partsT (q ++ s :: ds) = partsT q ++ [ds] := by
  unfold partsT
  rw [pcs_sep q [] s ds hs]
  have := parts_digs h
  unfold partsT at this
  rw [this]
theorem signs_digs {ds : List Nat} (h : ds.all isD = true) : signsT ds = [] := by
  unfold signsT
  rw [List.filter_eq_nil_iff]
  intro c hc
  rw [List.all_eq_true.mp h c hc]
  decide
theorem signs_app (a b : List Nat) : signsT (a ++ b) = signsT a ++ signsT b := List.filter_append ..
theorem signs_sep {q ds : List Nat} {s : Nat} (hs : isD s = false) (h : ds.all isD = true) : signsT (q ++ s :: ds) = signsT q ++ [s] := by
  rw [signs_app]
  congr 1
  show signsT ([s] ++ ds) = _
  rw [signs_app, signs_digs h]
  simp [signsT, hs]
/-! goes on: closed under shorter texts -/
theorem okSigns_pre {a b : List Nat} (h : okSigns (a ++ b) = true) : okSigns a = true := by
  unfold okSigns at h ⊢
  rw [Bool.or_eq_true, decide_eq_true_eq, decide_eq_true_eq] at h ⊢
  rcases h with h | h
  · exact .inl ((List.prefix_append a b).trans h)
  · exact .inr ((List.prefix_append a b).trans h)
/-- what the parts must be -/
def okParts : Nat → List (List Nat) → Bool
  | _, [] => true
  | i, [p] => decide (p.length ≤ if i = 0 then 7 else 2)
  | i, p :: r => decide (p.length ≤ if i = 0 then 7 else 2) && (decide (p ≠ []) && okParts (i + 1) r)
theorem goes_eq (t : List Nat) : goesT t = (okSigns (signsT t) && okParts 0 (partsT t)) := by
  unfold goesT
  congr 1
  generalize partsT t = P
  have key : ∀ (P : List (List Nat)) (i : Nat), (decide (longs i P = []) && !decide (([] : List Nat) ∈ P.dropLast)) = okParts i P := by
    intro P
    induction P with
    | nil => intro i; rfl
    | cons p r ih =>
      intro i
      cases r with
      | nil =>
        simp only [longs, okParts, List.append_nil, List.dropLast_singleton, List.not_mem_nil, decide_false, Bool.not_false, Bool.and_true]
        by_cases h : (if i = 0 then 7 else 2) < p.length
        · rw [if_pos h, decide_eq_false (show ¬ [p] = [] by simp), decide_eq_false (show ¬ p.length ≤ (if i = 0 then 7 else 2) by omega)]
        · rw [if_neg h, decide_eq_true (show ([] : List (List Nat)) = [] from rfl), decide_eq_true (show p.length ≤ (if i = 0 then 7 else 2) by omega)]
      | cons q r =>
        have h2 := ih (i + 1)
        rw [longs, okParts, List.dropLast_cons₂]
        · rw [← h2]
          by_cases h : (if i = 0 then 7 else 2) < p.length
          · rw [if_pos h, decide_eq_false (show ¬ [p] ++ longs (i + 1) (q :: r) = [] by simp), decide_eq_false (show ¬ p.length ≤ (if i = 0 then 7 else 2) by omega), Bool.false_and, Bool.false_and]
          · rw [if_neg h, List.nil_append, decide_eq_true (show p.length ≤ _ by omega), Bool.true_and]
            by_cases hp : p = []
            · subst hp
              simp
            · have e : decide (([] : List Nat) ∈ p :: (q :: r).dropLast) = decide (([] : List Nat) ∈ (q :: r).dropLast) := by
                have h3 : ¬ ([] : List Nat) = p := fun z => hp z.symm
                simp only [List.mem_cons, h3, false_or]
              rw [e, decide_eq_true hp, Bool.true_and]
        · simp
  exact key P 0
end K00
namespace K00
open PySem PySem.Spec PyProof.Rows L2 G
def sgOf (hd : Bool) : List Nat := if hd = true then [45, 58, 58] else [58, 58]
def numsOf : Nat → List (List Nat) → List (Nat × Nat)
  | _, [] => []
  | b, p :: r => (b, valD p) :: numsOf (b + p.length + 1) r
def nextB : Nat → List (List Nat) → Nat
  | b, [] => b
  | b, p :: r => nextB (b + p.length + 1) r
theorem numsOf_snoc : ∀ (P : List (List Nat)) (b : Nat) (d : List Nat), numsOf b (P ++ [d]) = numsOf b P ++ [(nextB b P, valD d)]
  | [], b, d => rfl
  | p :: r, b, d => by
    rw [List.cons_append, numsOf, numsOf, nextB, numsOf_snoc r]
    rfl
theorem nextB_snoc : ∀ (P : List (List Nat)) (b : Nat) (d : List Nat), nextB b (P ++ [d]) = nextB b P + d.length + 1
  | [], b, d => rfl
  | p :: r, b, d => by
    rw [List.cons_append, nextB, nextB, nextB_snoc r]
theorem numsOf_len : ∀ (P : List (List Nat)) (b : Nat), (numsOf b P).length = P.length
  | [], _ => rfl
  | p :: r, b => by rw [numsOf, List.length_cons, List.length_cons, numsOf_len r]
structure Iv (t : List Nat) (hd : Bool) (e : Nat) (ns : List (Nat × Nat)) (Ps : List (List Nat)) (ds : List Nat) : Prop where
  le : e ≤ t.length
  go : ∀ j, j ≤ e → goesT (t.take j) = true
  parts : ∀ x, x.all isD = true → partsT (t.take e ++ x) = Ps ++ [ds ++ x]
  signs : signsT (t.take e) = (sgOf hd).take Ps.length
  n1 : Ps.length < if hd = true then 4 else 3
  ns : ns = numsOf 0 (Ps ++ [ds])
  nb : nextB 0 (Ps ++ [ds]) = e + 1
  okP : okParts 0 (Ps ++ [ds]) = true
  ne : ds ≠ []
  stop : dAt t e = true → ds.length = if Ps.length = 0 then 7 else 2
  first : Ps = [] → e = dCnt t 0 7
/-- the last part may grow as long as it is short -/
theorem okParts_last : ∀ (P : List (List Nat)) (i : Nat) (d : List Nat), okParts i (P ++ [d]) = (okParts i (P ++ [[]]) && decide (d.length ≤ if i + P.length = 0 then 7 else 2))
  | [], i, d => by
    show decide _ = (decide _ && decide _)
    rw [decide_eq_true (show ([] : List Nat).length ≤ _ from Nat.zero_le _), Bool.true_and]
    rfl
  | p :: r, i, d => by
    have ih := okParts_last r (i + 1) d
    have e : i + 1 + r.length = i + (p :: r).length := by rw [List.length_cons]; omega
    rw [e] at ih
    cases r with
    | nil =>
      show (decide _ && (decide _ && okParts (i + 1) ([] ++ [d]))) = ((decide _ && (decide _ && okParts (i + 1) ([] ++ [[]]))) && _)
      rw [ih, Bool.and_assoc, Bool.and_assoc]
    | cons q r =>
      show (decide _ && (decide _ && okParts (i + 1) ((q :: r) ++ [d]))) = ((decide _ && (decide _ && okParts (i + 1) ((q :: r) ++ [[]]))) && _)
      rw [ih, Bool.and_assoc, Bool.and_assoc]
/-- a further part is begun behind parts none of which is empty -/
theorem okParts_more : ∀ (P : List (List Nat)) (i : Nat) (d : List Nat), okParts i ((P ++ [d]) ++ [[]]) = (okParts i (P ++ [d]) && decide (d ≠ []))
  | [], i, d => by
    show (decide _ && (decide (d ≠ []) && decide (([] : List Nat).length ≤ _))) = (decide _ && decide (d ≠ []))
    rw [decide_eq_true (show ([] : List Nat).length ≤ _ from Nat.zero_le _), Bool.and_true]
  | p :: r, i, d => by
    have ih := okParts_more r (i + 1) d
    cases r with
    | nil =>
      show (decide _ && (decide _ && okParts (i + 1) (([] ++ [d]) ++ [[]]))) = ((decide _ && (decide _ && okParts (i + 1) ([] ++ [d]))) && _)
      rw [ih, Bool.and_assoc, Bool.and_assoc]
    | cons q r =>
      show (decide _ && (decide _ && okParts (i + 1) (((q :: r) ++ [d]) ++ [[]]))) = ((decide _ && (decide _ && okParts (i + 1) ((q :: r) ++ [d]))) && _)
      rw [ih, Bool.and_assoc, Bool.and_assoc]
theorem fail_some {t : List Nat} {i : Nat} (hi : i < t.length) (hb : goesT (t.take (i + 1)) = false) (hg : ∀ j, j ≤ i → goesT (t.take j) = true) : failF t t.length 0 = some i := by
  have key : ∀ f k, k ≤ i → i < k + f → failF t f k = some i := by
    intro f
    induction f with
    | zero => intro k h1 h2; omega
    | succ f ih =>
      intro k h1 h2
      rw [failF]
      by_cases e : k = i
      · subst e
        rw [if_pos hb]
      · rw [if_neg (by rw [hg (k + 1) (by omega)]; decide)]
        exact ih (k + 1) (by omega) (by omega)
  exact key t.length 0 (Nat.zero_le _) (by omega)
theorem fail_no {t : List Nat} (hg : ∀ j, j ≤ t.length → goesT (t.take j) = true) : failF t t.length 0 = none := by
  have key : ∀ f k, k + f ≤ t.length → failF t f k = none := by
    intro f
    induction f with
    | zero => intro k _; rfl
    | succ f ih =>
      intro k h
      rw [failF, if_neg (by rw [hg (k + 1) (by omega)]; decide)]
      exact ih (k + 1) (by omega)
  exact key t.length 0 (by omega)
theorem take_snoc {t : List Nat} {e c : Nat} (h : t[e]? = some c) : t.take (e + 1) = t.take e ++ [c] := by
  rw [List.take_add_one, h]
  rfl
theorem dCnt_stop {t : List Nat} {b m : Nat} (h : dAt t (b + dCnt t b m) = true) : dCnt t b m = m := by
  have h1 := dCnt_step t m b (dCnt t b m) (Nat.le_refl _)
  rw [h, Bool.and_true] at h1
  have h2 : decide (dCnt t b m < dCnt t b m) = false := decide_eq_false (Nat.lt_irrefl _)
  rw [h2] at h1
  have h3 := of_decide_eq_false h1
  have := dCnt_le t m b
  omega
theorem take_cut (t : List Nat) (b k : Nat) : t.take (b + k) = t.take b ++ cut t b k := by
  unfold cut
  exact List.take_add ..
/-- a shorter cut is digits too -/
theorem cut_digs {t : List Nat} {b m k : Nat} (h : k ≤ dCnt t b m) : (cut t b k).all isD = true := by
  have h1 := cut_all t m b
  refine List.all_eq_true.mpr fun c hc => List.all_eq_true.mp h1 c ?_
  unfold cut at hc ⊢
  exact List.take_subset_take_left _ h hc
theorem cut_le (t : List Nat) (b k : Nat) : (cut t b k).length ≤ k := by
  unfold cut
  rw [List.length_take]
  omega
/-- signs that do not go on -/
theorem signs_bad {hd : Bool} {k c : Nat} (hk : k < if hd = true then 4 else 3) (h : c ≠ (if hd = true ∧ k = 0 then 45 else 58) ∨ k + 1 = (if hd = true then 4 else 3)) (h0 : k = 0 → (hd = true ↔ c = 45)) : okSigns ((sgOf hd).take k ++ [c]) = false := by
  have pre : ∀ (a b : List Nat), a ++ [c] <+: b → b[a.length]? = some c := fun a b q => by
    obtain ⟨r, e⟩ := q
    rw [← e, List.getElem?_append_left (by simp), List.getElem?_append_right (Nat.le_refl _), Nat.sub_self]
    rfl
  unfold okSigns
  rw [Bool.or_eq_false_iff, decide_eq_false_iff_not, decide_eq_false_iff_not]
  have len : ((sgOf hd).take k).length = min k (sgOf hd).length := List.length_take
  by_cases hk0 : k = 0
  · subst hk0
    have h1 := h0 rfl
    refine ⟨fun q => ?_, fun q => ?_⟩
    · have := pre [] _ q
      have e : 58 = c := by simpa using this
      subst e
      cases hd with
      | true => exact absurd (h1.mp rfl) (by decide)
      | false =>
        rcases h with h | h
        · exact h rfl
        · exact absurd h (by decide)
    · have := pre [] _ q
      have e : 45 = c := by simpa using this
      subst e
      cases hd with
      | true =>
        rcases h with h | h
        · exact h rfl
        · exact absurd h (by decide)
      | false => exact absurd (h1.mpr rfl) (by decide)
  · have hc : c ≠ 58 ∨ k + 1 = (if hd = true then 4 else 3) := by
      rw [if_neg (show ¬ (hd = true ∧ k = 0) from fun z => hk0 z.2)] at h
      exact h
    cases hd with
    | true =>
      rw [if_pos rfl] at hk hc
      have hk4 : k = 1 ∨ k = 2 ∨ k = 3 := by omega
      rcases hk4 with e | e | e <;> subst e
      · refine ⟨fun q => ?_, fun q => ?_⟩
        · have := q.subset (List.mem_append_left _ (show 45 ∈ (sgOf true).take 1 by decide)); simp at this
        · have := pre [45] _ q
          have e : 58 = c := by simpa using this
          rcases hc with h | h
          · exact h e.symm
          · omega
      · refine ⟨fun q => ?_, fun q => ?_⟩
        · have := q.subset (List.mem_append_left _ (show 45 ∈ (sgOf true).take 2 by decide)); simp at this
        · have := pre [45, 58] _ q
          have e : 58 = c := by simpa using this
          rcases hc with h | h
          · exact h e.symm
          · omega
      · refine ⟨fun q => ?_, fun q => ?_⟩
        · have := q.length_le; simp [sgOf] at this
        · have := q.length_le; simp [sgOf] at this
    | false =>
      rw [if_neg (by decide)] at hk hc
      have hk4 : k = 1 ∨ k = 2 := by omega
      rcases hk4 with e | e <;> subst e
      · refine ⟨fun q => ?_, fun q => ?_⟩
        · have := pre [58] _ q
          have e : 58 = c := by simpa using this
          rcases hc with h | h
          · exact h e.symm
          · omega
        · obtain ⟨r, e⟩ := q
          simp [sgOf] at e
      · refine ⟨fun q => ?_, fun q => ?_⟩
        · have := q.length_le; simp [sgOf] at this
        · obtain ⟨r, e⟩ := q
          simp [sgOf] at e
theorem signs_good {hd : Bool} {k : Nat} (hk : k + 1 < if hd = true then 4 else 3) : (sgOf hd).take k ++ [if hd = true ∧ k = 0 then 45 else 58] = (sgOf hd).take (k + 1) ∧ okSigns ((sgOf hd).take (k + 1)) = true := by
  cases hd with
  | true =>
    rw [if_pos rfl] at hk
    have hk4 : k = 0 ∨ k = 1 ∨ k = 2 := by omega
    rcases hk4 with e | e | e <;> subst e <;> decide
  | false =>
    rw [if_neg (by decide)] at hk
    have hk4 : k = 0 ∨ k = 1 := by omega
    rcases hk4 with e | e <;> subst e <;> decide
end K00
namespace K00
open PySem PySem.Spec PyProof.Rows L2 G
theorem run {t : List Nat} {hd : Bool} (hhd : hd = hasD t) : ∀ (f e : Nat) (ns : List (Nat × Nat)) (Ps : List (List Nat)) (ds : List Nat), t.length < e + f → Iv t hd e ns Ps ds →
    (∃ s, rdN t hd f e ns = .inl s ∧ (failF t t.length 0 = some s ∨ (failF t t.length 0 = none ∧ (partsT t).getLast? = some [] ∧ s = t.length))) ∨
    (∃ ns' Ps' ds', rdN t hd f e ns = .inr ns' ∧ Iv t hd t.length ns' Ps' ds') := by
  intro f
  induction f with
  | zero =>
    intro e ns Ps ds h I
    have := I.le
    omega
  | succ f ih =>
    intro e ns Ps ds hf I
    have hnl : ns.length = Ps.length + 1 := by
      rw [I.ns, numsOf_len, List.length_append]
      rfl
    have hP0 := I.parts [] rfl
    rw [List.append_nil, List.append_nil] at hP0
    by_cases he : e < t.length
    · have hge : t[e]? = some t[e] := List.getElem?_eq_getElem he
      rw [rdN, if_pos he, hge]
      generalize t[e] = c at hge
      have hj : (if hd = true ∧ ns.length = 1 then 45 else 58) = (if hd = true ∧ Ps.length = 0 then 45 else 58) := by
        by_cases h : hd = true ∧ Ps.length = 0
        · rw [if_pos h, if_pos ⟨h.1, by omega⟩]
        · rw [if_neg h, if_neg fun z => h ⟨z.1, by omega⟩]
      rw [hj]
      by_cases bad : some c ≠ some (if hd = true ∧ Ps.length = 0 then 45 else 58) ∨ ns.length = (if hd = true then 4 else 3)
      · rw [if_pos bad]
        refine .inl ⟨e, rfl, .inl (fail_some he ?_ I.go)⟩
        rw [take_snoc hge, goes_eq]
        cases hc : isD c with
        | true =>
          have hx : [c].all isD = true := by rw [List.all_cons, hc]; rfl
          rw [I.parts [c] hx, okParts_last]
          have hs := I.stop (by unfold dAt; rw [hge]; exact hc)
          have hl : decide ((ds ++ [c]).length ≤ if 0 + Ps.length = 0 then 7 else 2) = false := by
            refine decide_eq_false ?_
            rw [List.length_append, hs, Nat.zero_add]
            show ¬ _ + 1 ≤ _
            omega
          rw [hl, Bool.and_false, Bool.and_false]
        | false =>
          have hsg : signsT (t.take e ++ [c]) = (sgOf hd).take Ps.length ++ [c] := by
            rw [signs_sep hc (by rfl), I.signs]
          rw [hsg, signs_bad I.n1, Bool.false_and]
          · rcases bad with h | h
            · exact .inl fun z => h (by rw [z])
            · exact .inr (by omega)
          · intro hk
            have hPs : Ps = [] := List.length_eq_zero_iff.mp hk
            have hfi := I.first hPs
            rw [hhd]
            unfold hasD
            rw [← hfi, hge, decide_eq_true_eq]
            exact ⟨fun z => Option.some.inj z, fun z => by rw [z]⟩
      · rw [if_neg bad]
        have hcj : c = (if hd = true ∧ Ps.length = 0 then 45 else 58) := by
          by_cases h : c = (if hd = true ∧ Ps.length = 0 then 45 else 58)
          · exact h
          · exact absurd (.inl fun z => h (Option.some.inj z)) bad
        have hnm : Ps.length + 1 < (if hd = true then 4 else 3) := by
          have h1 := I.n1
          have h2 : ¬ ns.length = (if hd = true then 4 else 3) := fun z => bad (.inr z)
          omega
        have hcs : c = 45 ∨ c = 58 := by
          by_cases h : hd = true ∧ Ps.length = 0
          · rw [if_pos h] at hcj; exact .inl hcj
          · rw [if_neg h] at hcj; exact .inr hcj
        have hcd : isD c = false := by
          rcases hcs with h | h <;> rw [h] <;> decide
        obtain ⟨hsg1, hsg2⟩ := signs_good hnm
        rw [← hcj] at hsg1
        have hmore : okParts 0 ((Ps ++ [ds]) ++ [[]]) = true := by
          rw [okParts_more, I.okP, decide_eq_true I.ne]
          rfl
        have hpx : ∀ x, x.all isD = true → partsT (t.take e ++ c :: x) = (Ps ++ [ds]) ++ [x] := fun x hx => by
          rw [parts_sep hcs hx, hP0]
        have hsx : ∀ x, x.all isD = true → signsT (t.take e ++ c :: x) = (sgOf hd).take (Ps.length + 1) := fun x hx => by
          rw [signs_sep hcd hx, I.signs, hsg1]
        have hokx : ∀ x : List Nat, x.length ≤ 2 → okParts 0 ((Ps ++ [ds]) ++ [x]) = true := fun x hx => by
          rw [okParts_last, hmore, Bool.true_and]
          refine decide_eq_true ?_
          rw [if_neg (by rw [List.length_append]; simp)]
          exact hx
        have G1 : ∀ x, x.all isD = true → x.length ≤ 2 → goesT (t.take e ++ c :: x) = true := fun x hx hl => by
          rw [goes_eq, hsx x hx, hpx x hx, hsg2, hokx x hl]
          rfl
        have htk : t.take (e + 1) = t.take e ++ [c] := take_snoc hge
        have htx : ∀ k, t.take (e + 1 + k) = t.take e ++ c :: cut t (e + 1) k := fun k => by
          rw [take_cut, htk, List.append_assoc]
          rfl
        by_cases hm : dCnt t (e + 1) 2 = 0
        · rw [if_pos hm]
          refine .inl ⟨e + 1, rfl, ?_⟩
          have hg : ∀ j, j ≤ e + 1 → goesT (t.take j) = true := fun j hj => by
            by_cases h : j ≤ e
            · exact I.go j h
            · have : j = e + 1 := by omega
              rw [this, htk]
              exact G1 [] rfl (Nat.zero_le _)
          by_cases h1 : e + 1 < t.length
          · refine .inl (fail_some h1 ?_ hg)
            have hge2 : t[e + 1]? = some t[e + 1] := List.getElem?_eq_getElem h1
            generalize t[e + 1] = c2 at hge2
            have hd2 : isD c2 = false := by
              cases h : isD c2 with
              | false => rfl
              | true =>
                have hda : dAt t (e + 1) = true := by unfold dAt; rw [hge2]; exact h
                rw [dCnt, if_pos hda] at hm
                omega
            cases hgo : goesT (t.take (e + 1 + 1)) with
            | false => rfl
            | true =>
              exfalso
              rw [goes_eq, Bool.and_eq_true] at hgo
              rw [take_snoc hge2] at hgo
              have hmem : c2 ∈ signsT (t.take (e + 1) ++ [c2]) := by
                rw [signs_app]
                refine List.mem_append_right _ ?_
                simp [signsT, hd2]
              have hc2 := (okSigns_mem hgo.1).1 c2 hmem
              have hp2 := hgo.2
              rw [parts_sep hc2 rfl, htk, hpx [] rfl, okParts_more] at hp2
              rw [Bool.and_eq_true] at hp2
              exact absurd rfl (of_decide_eq_true hp2.2)
          · have hel : e + 1 = t.length := by omega
            refine .inr ⟨fail_no fun j hj => hg j (by omega), ?_, hel⟩
            have : partsT t = (Ps ++ [ds]) ++ [[]] := by
              rw [← hpx [] rfl, ← htk, hel, List.take_length]
            rw [this]
            simp
        · rw [if_neg hm]
          have hcl := cut_len t 2 (e + 1)
          have hdig := cut_all t 2 (e + 1)
          have hm2 := dCnt_le t 2 (e + 1)
          refine ih (e + 1 + dCnt t (e + 1) 2) _ (Ps ++ [ds]) (cut t (e + 1) (dCnt t (e + 1) 2)) (by omega) ?_
          refine ⟨?_, fun j hj => ?_, fun x hx => ?_, ?_, ?_, ?_, ?_, ?_, ?_, fun hs => ?_, fun z => ?_⟩
          · rcases dCnt_fit t 2 (e + 1) with h | h
            · exact h
            · exact absurd h hm
          · by_cases h : j ≤ e
            · exact I.go j h
            · obtain ⟨k, rfl⟩ : ∃ k, j = e + 1 + k := ⟨j - (e + 1), by omega⟩
              rw [htx]
              exact G1 _ (cut_digs (m := 2) (by omega)) (Nat.le_trans (cut_le t (e + 1) k) (by omega))
          · rw [htx, List.append_assoc, List.cons_append]
            exact hpx _ (by rw [List.all_append, hdig, hx]; rfl)
          · rw [htx, hsx _ hdig, List.length_append]
            rfl
          · rw [List.length_append]
            exact hnm
          · rw [numsOf_snoc, ← I.ns, I.nb]
          · rw [nextB_snoc, I.nb, hcl]
          · exact hokx _ (by omega)
          · intro z
            rw [z] at hcl
            exact hm hcl.symm
          · have h2 := dCnt_stop hs
            rw [hcl, h2, if_neg (by rw [List.length_append]; simp)]
          · simp at z
    · have hel : e = t.length := by have := I.le; omega
      rw [rdN, if_neg he]
      subst hel
      exact .inr ⟨ns, Ps, ds, rfl, I⟩
theorem bad_eq (hd : Bool) : ∀ (P : List (List Nat)) (i b : Nat), badN hd i (numsOf b P) = badP hd (i + 1) b P
  | [], _, _ => rfl
  | p :: r, i, b => by
    rw [numsOf, badN, badP, bad_eq hd r]
    have e : (if hd = true ∧ i = 0 then 24 else 60) = (if i + 1 = 1 ∧ hd = true then 24 else 60) := by
      by_cases h : hd = true ∧ i = 0
      · rw [if_pos h, if_pos ⟨by omega, h.1⟩]
      · rw [if_neg h, if_neg fun z => h ⟨z.2, by omega⟩]
    rw [e]
theorem sum_eq : ∀ (W : List Nat) (P : List (List Nat)) (b : Nat), sumW W (numsOf b P) = sumP W P
  | [], [], _ => rfl
  | [], _ :: _, _ => rfl
  | _ :: _, [], _ => rfl
  | w :: W, p :: P, b => by
    rw [numsOf, sumW, sumP, sum_eq W P]
theorem ticks_due (t : List Nat) : ticksR t = dueR t := by
  unfold ticksR readN
  by_cases h0 : dCnt t 0 7 = 0
  · rw [if_pos h0]
    have hnd : ∀ c, t[0]? = some c → isD c = false := fun c hc => by
      cases h : isD c with
      | false => rfl
      | true =>
        have hda : dAt t 0 = true := by unfold dAt; rw [hc]; exact h
        rw [dCnt, if_pos hda] at h0
        omega
    cases t with
    | nil => rfl
    | cons c r =>
      have hc := hnd c rfl
      have hf : failF (c :: r) (c :: r).length 0 = some 0 := by
        refine fail_some (by simp) ?_ fun j hj => ?_
        · cases hgo : goesT ((c :: r).take (0 + 1)) with
          | false => rfl
          | true =>
            exfalso
            rw [goes_eq, Bool.and_eq_true] at hgo
            have hmem : c ∈ signsT ((c :: r).take (0 + 1)) := by
              show c ∈ signsT [c]
              simp [signsT, hc]
            have hc2 := (okSigns_mem hgo.1).1 c hmem
            have hp2 := hgo.2
            have e : partsT ((c :: r).take (0 + 1)) = [[], []] := by
              show partsT ([] ++ c :: []) = _
              rw [parts_sep hc2 rfl]
              rfl
            rw [e] at hp2
            cases hp2
        · have : j = 0 := by omega
          subst this
          rfl
      unfold dueR
      rw [hf]
  · rw [if_neg h0]
    have hcut : cut t 0 (dCnt t 0 7) = t.take (dCnt t 0 7) := by
      unfold cut
      rw [List.drop_zero]
    have hcl := cut_len t 7 0
    have hm7 := dCnt_le t 7 0
    have I : Iv t (hasD t) (dCnt t 0 7) [(0, valD (cut t 0 (dCnt t 0 7)))] [] (cut t 0 (dCnt t 0 7)) := by
      refine ⟨?_, fun j hj => ?_, fun x hx => ?_, ?_, ?_, rfl, ?_, ?_, ?_, fun hs => ?_, fun _ => rfl⟩
      · rcases dCnt_fit t 7 0 with h | h
        · omega
        · exact absurd h h0
      · have hd : (t.take j).all isD = true := by
          have := cut_digs (t := t) (b := 0) (m := 7) (k := j) hj
          unfold cut at this
          rwa [List.drop_zero] at this
        rw [goes_eq, signs_digs hd, parts_digs hd]
        show (true && decide ((t.take j).length ≤ 7)) = true
        rw [decide_eq_true (by rw [List.length_take]; omega)]
        rfl
      · rw [← hcut]
        exact parts_digs (by rw [List.all_append, cut_all t 7 0, hx]; rfl)
      · rw [← hcut, signs_digs (cut_all t 7 0)]
        rfl
      · show 0 < _
        split <;> decide
      · show 0 + (cut t 0 (dCnt t 0 7)).length + 1 = _
        rw [hcl, Nat.zero_add]
      · show decide ((cut t 0 (dCnt t 0 7)).length ≤ 7) = true
        exact decide_eq_true (by omega)
      · intro z
        rw [z] at hcl
        exact h0 hcl.symm
      · have := dCnt_stop (t := t) (b := 0) (m := 7) (by rw [Nat.zero_add]; exact hs)
        rw [hcl, this]
        rfl
    rcases run rfl (t.length + 1) _ _ _ _ (by omega) I with ⟨s, hr, h⟩ | ⟨ns, Ps, ds, hr, J⟩
    · rw [hr]
      unfold dueR
      rcases h with h | ⟨h1, h2, h3⟩
      · rw [h]
      · rw [h1, h3]
        dsimp only
        rw [if_pos h2]
    · rw [hr]
      have hP : partsT t = Ps ++ [ds] := by
        have := J.parts [] rfl
        rwa [List.append_nil, List.append_nil, List.take_length] at this
      have hS : signsT t = (sgOf (hasD t)).take Ps.length := by
        have := J.signs
        rwa [List.take_length] at this
      have hfn := fail_no J.go
      have hlast : ¬ (partsT t).getLast? = some [] := by
        rw [hP, List.getLast?_append]
        intro z
        exact J.ne (Option.some.inj z)
      have hn1 := J.n1
      have hhd : hdS t = hasD t := by
        unfold hdS
        rw [hS]
        by_cases hk : Ps = []
        · have hfi := J.first hk
          have e : hasD t = false := by
            unfold hasD
            rw [← hfi, List.getElem?_eq_none_iff.mpr (Nat.le_refl _)]
            rfl
          rw [e, hk]
          rfl
        · obtain ⟨k, hk2⟩ : ∃ k, Ps.length = k + 1 := ⟨Ps.length - 1, by have := List.length_pos_iff.mpr hk; omega⟩
          rw [hk2]
          cases hasD t <;> rfl
      unfold dueR
      rw [hfn]
      dsimp only
      rw [if_neg hlast, hhd, J.ns]
      have hne : Ps ++ [ds] ≠ [] := by simp
      obtain ⟨p0, Pr, hPP⟩ : ∃ p0 Pr, Ps ++ [ds] = p0 :: Pr := by
        cases h : Ps ++ [ds] with
        | nil => exact absurd h hne
        | cons a b => exact ⟨a, b, rfl⟩
      rw [hP]
      have hlen : (numsOf 0 (Ps ++ [ds])).length = Ps.length + 1 := by
        rw [numsOf_len, List.length_append]
        rfl
      have hsum : sumW (worthsL (numsOf 0 (Ps ++ [ds])).length (hasD t)) (numsOf 0 (Ps ++ [ds])) = sumP (unitsL t) (Ps ++ [ds]) := by
        rw [sum_eq, hlen]
        unfold worthsL unitsL
        rw [hhd]
        by_cases hd : hasD t = true
        · rw [if_pos hd, if_pos hd]
        · rw [if_neg hd, if_neg hd]
          rw [if_neg hd] at hn1
          have hsl : (signsT t).length = Ps.length := by
            rw [hS]
            unfold sgOf
            rw [if_neg hd, List.length_take]
            show min Ps.length 2 = _
            omega
          rw [hsl]
          have hk : Ps.length = 0 ∨ Ps.length = 1 ∨ Ps.length = 2 := by omega
          rcases hk with e | e | e
          · rw [e]
            have : Ps = [] := List.length_eq_zero_iff.mp e
            subst this
            rfl
          · rw [e]; rfl
          · rw [e]; rfl
      rw [hsum, hPP, numsOf]
      simp only [List.tail_cons, List.headD_cons]
      rw [bad_eq, Nat.zero_add p0.length]
      cases badP (hasD t) 1 (p0.length + 1) Pr with
      | some s => rfl
      | none =>
        dsimp only
        by_cases hb : 1000000 < sumP (unitsL t) (p0 :: Pr)
        · rw [if_pos hb, if_neg (by omega)]
        · rw [if_neg hb, if_pos (by omega)]
end K00
namespace K00
open PySem PySem.Spec PyProof.Rows L2 G
theorem dAt_s (x : Nat) (l : List Nat) (i : Nat) : dAt (x :: l) (i + 1) = dAt l i := rfl
theorem dAt_0 (x : Nat) (l : List Nat) : dAt (x :: l) 0 = isD x := rfl
theorem dAt_n (i : Nat) : dAt [] i = false := rfl
theorem isD58 : isD 58 = false := by decide
theorem isD45 : isD 45 = false := by decide
section
variable {a b c d e f y z : Nat}
theorem read0 (ha : isD a = true) (hb : isD b = true) (hc : isD c = true) (hd : isD d = true) (he : isD e = true) (hf : isD f = true) : hasD [a, b, 58, c, d, 58, e, f] = false ∧ readN [a, b, 58, c, d, 58, e, f] = .inr [(0, valD [a, b]), (3, valD [c, d]), (6, valD [e, f])] := by
  have h1 : dCnt [a, b, 58, c, d, 58, e, f] 0 7 = 2 := by simp [dCnt, dAt_s, dAt_0, ha, hb, isD58]
  have h2 : dCnt [a, b, 58, c, d, 58, e, f] 3 2 = 2 := by simp [dCnt, dAt_s, dAt_0, hc, hd]
  have h3 : dCnt [a, b, 58, c, d, 58, e, f] 6 2 = 2 := by simp [dCnt, dAt_s, dAt_0, he, hf]
  have hh : hasD [a, b, 58, c, d, 58, e, f] = false := by unfold hasD; rw [h1]; rfl
  refine ⟨hh, ?_⟩
  unfold readN
  rw [hh, h1]
  simp [rdN, h2, h3, cut]
theorem read1 (ha : isD a = true) (hb : isD b = true) (hc : isD c = true) (hd : isD d = true) (he : isD e = true) (hf : isD f = true) (hz : isD z = true) : hasD [z, 45, a, b, 58, c, d, 58, e, f] = true ∧ readN [z, 45, a, b, 58, c, d, 58, e, f] = .inr [(0, valD [z]), (2, valD [a, b]), (5, valD [c, d]), (8, valD [e, f])] := by
  have h0 : dCnt [z, 45, a, b, 58, c, d, 58, e, f] 0 7 = 1 := by simp [dCnt, dAt_s, dAt_0, hz, isD45]
  have h1 : dCnt [z, 45, a, b, 58, c, d, 58, e, f] 2 2 = 2 := by simp [dCnt, dAt_s, dAt_0, ha, hb]
  have h2 : dCnt [z, 45, a, b, 58, c, d, 58, e, f] 5 2 = 2 := by simp [dCnt, dAt_s, dAt_0, hc, hd]
  have h3 : dCnt [z, 45, a, b, 58, c, d, 58, e, f] 8 2 = 2 := by simp [dCnt, dAt_s, dAt_0, he, hf]
  have hh : hasD [z, 45, a, b, 58, c, d, 58, e, f] = true := by unfold hasD; rw [h0]; rfl
  refine ⟨hh, ?_⟩
  unfold readN
  rw [hh, h0]
  simp [rdN, h1, h2, h3, cut]
theorem read2 (ha : isD a = true) (hb : isD b = true) (hc : isD c = true) (hd : isD d = true) (he : isD e = true) (hf : isD f = true) (hy : isD y = true) (hz : isD z = true) : hasD [y, z, 45, a, b, 58, c, d, 58, e, f] = true ∧ readN [y, z, 45, a, b, 58, c, d, 58, e, f] = .inr [(0, valD [y, z]), (3, valD [a, b]), (6, valD [c, d]), (9, valD [e, f])] := by
  have h0 : dCnt [y, z, 45, a, b, 58, c, d, 58, e, f] 0 7 = 2 := by simp [dCnt, dAt_s, dAt_0, hy, hz, isD45]
  have h1 : dCnt [y, z, 45, a, b, 58, c, d, 58, e, f] 3 2 = 2 := by simp [dCnt, dAt_s, dAt_0, ha, hb]
  have h2 : dCnt [y, z, 45, a, b, 58, c, d, 58, e, f] 6 2 = 2 := by simp [dCnt, dAt_s, dAt_0, hc, hd]
  have h3 : dCnt [y, z, 45, a, b, 58, c, d, 58, e, f] 9 2 = 2 := by simp [dCnt, dAt_s, dAt_0, he, hf]
  have hh : hasD [y, z, 45, a, b, 58, c, d, 58, e, f] = true := by unfold hasD; rw [h0]; rfl
  refine ⟨hh, ?_⟩
  unfold readN
  rw [hh, h0]
  simp [rdN, h1, h2, h3, cut]
end
theorem val2 : ∀ n : Fin 100, valD (dig2 n.val) = n.val ∧ isD (48 + n.val / 10) = true ∧ isD (48 + n.val % 10) = true := by decide +kernel
theorem v2 {n : Nat} (h : n < 100) : valD [48 + n / 10, 48 + n % 10] = n ∧ isD (48 + n / 10) = true ∧ isD (48 + n % 10) = true := val2 ⟨n, h⟩
theorem numD1 : ∀ n : Fin 10, numL n.val = [48 + n.val] ∧ valD [48 + n.val] = n.val ∧ isD (48 + n.val) = true := by decide +kernel
theorem numD2 : ∀ n : Fin 100, 10 ≤ n.val → numL n.val = dig2 n.val := by decide +kernel
theorem bad3 {x y z h m s : Nat} (b1 : h < 24) (b2 : m < 60) (b3 : s < 60) : badN true 0 [(x, h), (y, m), (z, s)] = none := by
  have e1 : (if true = true ∧ (0 : Nat) = 0 then 24 else 60) = 24 := if_pos ⟨rfl, rfl⟩
  have e2 : (if true = true ∧ (0 + 1 : Nat) = 0 then 24 else 60) = 60 := if_neg fun z => absurd z.2 (by decide)
  have e3 : (if true = true ∧ (0 + 1 + 1 : Nat) = 0 then 24 else 60) = 60 := if_neg fun z => absurd z.2 (by decide)
  rw [badN, e1, if_neg (by omega), badN, e2, if_neg (by omega), badN, e3, if_neg (by omega), badN]
theorem ticks_text {n : Nat} (h : n ≤ 1000000) : ticksR (textOf n) = .inr n := by
  have hh := v2 (n := n % 86400 / 3600) (by omega)
  have hm := v2 (n := n % 3600 / 60) (by omega)
  have hs := v2 (n := n % 60) (by omega)
  have b1 : n % 86400 / 3600 < 24 := by omega
  have b2 : n % 3600 / 60 < 60 := by omega
  have b3 : n % 60 < 60 := by omega
  unfold textOf
  by_cases h0 : n / 86400 = 0
  · rw [if_pos h0]
    obtain ⟨e1, e2⟩ := read0 hh.2.1 hh.2.2 hm.2.1 hm.2.2 hs.2.1 hs.2.2
    show ticksR [48 + n % 86400 / 3600 / 10, 48 + n % 86400 / 3600 % 10, 58, 48 + n % 3600 / 60 / 10, 48 + n % 3600 / 60 % 10, 58, 48 + n % 60 / 10, 48 + n % 60 % 10] = _
    unfold ticksR
    rw [e2, e1, hh.1, hm.1, hs.1]
    simp only [List.tail_cons, badN, Bool.false_eq_true, false_and, if_false]
    rw [if_neg (by omega), if_neg (by omega)]
    have e : sumW (worthsL [(0, n % 86400 / 3600), (3, n % 3600 / 60), (6, n % 60)].length false) [(0, n % 86400 / 3600), (3, n % 3600 / 60), (6, n % 60)] = n := by
      show 3600 * (n % 86400 / 3600) + (60 * (n % 3600 / 60) + (1 * (n % 60) + 0)) = n
      omega
    rw [e]
    dsimp only
    rw [if_neg (by omega)]
  · rw [if_neg h0]
    have hd100 : n / 86400 < 12 := by omega
    by_cases h10 : n / 86400 < 10
    · obtain ⟨n1, n2, n3⟩ := numD1 ⟨n / 86400, h10⟩
      dsimp only at n1 n2 n3
      obtain ⟨e1, e2⟩ := read1 hh.2.1 hh.2.2 hm.2.1 hm.2.2 hs.2.1 hs.2.2 n3
      rw [n1]
      show ticksR [48 + n / 86400, 45, 48 + n % 86400 / 3600 / 10, 48 + n % 86400 / 3600 % 10, 58, 48 + n % 3600 / 60 / 10, 48 + n % 3600 / 60 % 10, 58, 48 + n % 60 / 10, 48 + n % 60 % 10] = _
      unfold ticksR
      rw [e2, e1, hh.1, hm.1, hs.1, n2]
      have e : sumW (worthsL [(0, n / 86400), (2, n % 86400 / 3600), (5, n % 3600 / 60), (8, n % 60)].length true) [(0, n / 86400), (2, n % 86400 / 3600), (5, n % 3600 / 60), (8, n % 60)] = n := by
        show 86400 * (n / 86400) + (3600 * (n % 86400 / 3600) + (60 * (n % 3600 / 60) + (1 * (n % 60) + 0))) = n
        omega
      have eb : badN true 0 [(2, n % 86400 / 3600), (5, n % 3600 / 60), (8, n % 60)] = none := bad3 b1 b2 b3
      dsimp only [List.tail_cons]
      rw [e, eb]
      dsimp only
      rw [if_neg (by omega)]
    · have n1 := numD2 ⟨n / 86400, by omega⟩ (by dsimp only; omega)
      dsimp only at n1
      obtain ⟨n2, n3, n4⟩ := v2 (n := n / 86400) (by omega)
      obtain ⟨e1, e2⟩ := read2 hh.2.1 hh.2.2 hm.2.1 hm.2.2 hs.2.1 hs.2.2 n3 n4
      rw [n1]
      show ticksR [48 + n / 86400 / 10, 48 + n / 86400 % 10, 45, 48 + n % 86400 / 3600 / 10, 48 + n % 86400 / 3600 % 10, 58, 48 + n % 3600 / 60 / 10, 48 + n % 3600 / 60 % 10, 58, 48 + n % 60 / 10, 48 + n % 60 % 10] = _
      unfold ticksR
      rw [e2, e1, hh.1, hm.1, hs.1, n2]
      have e : sumW (worthsL [(0, n / 86400), (3, n % 86400 / 3600), (6, n % 3600 / 60), (9, n % 60)].length true) [(0, n / 86400), (3, n % 86400 / 3600), (6, n % 3600 / 60), (9, n % 60)] = n := by
        show 86400 * (n / 86400) + (3600 * (n % 86400 / 3600) + (60 * (n % 3600 / 60) + (1 * (n % 60) + 0))) = n
        omega
      have eb : badN true 0 [(3, n % 86400 / 3600), (6, n % 3600 / 60), (9, n % 60)] = none := bad3 b1 b2 b3
      dsimp only [List.tail_cons]
      rw [e, eb]
      dsimp only
      rw [if_neg (by omega)]
end K00
namespace K00
open PySem PySem.Spec PyProof.Rows L2 G
local macro_rules | `(tactic| walk_at "st") => `(tactic| simp only [L2.start, cx_K, List.length_cons, List.length_nil, List.map_cons, List.map_nil, List.replicate, List.cons_append, List.nil_append, Nat.sub_self, Nat.add_sub_cancel, Nat.reduceSub, Nat.reduceAdd, Nat.zero_add])
local macro_rules | `(tactic| walk_at "wp") => `(tactic| simp only [↓tV0, ↓gN0, ↓tV1, ↓gN1, ↓tV2, ↓gN2, ↓tV3, ↓gN3, ↓tV4, ↓gN4, ↓tV5, ↓gN5, ↓tV6, ↓gN6, ↓tV7, ↓gN7, ↓tV8, ↓gN8, ↓tV9, ↓gN9, ↓tV10, ↓gN10, ↓tV11, ↓gN11, ↓tV12, ↓gN12, ↓tV13, ↓gN13, ↓w_Ret, ↓w_RetN, ↓w_C, ↓w_Op, ↓w_Un, ↓w_UnI, ↓w_Asg, ↓w_Seq, ↓w_IfS, ↓w_Next, ↓w_Drop, ↓w_CB, ↓w_Call, ↓w_Nil, ↓w_Cons, ↓w_NoPart, ↓w_Part, ↓w_Sl, ↓w_Test, ↓w_And, ↓w_Or, ↓w_Not, ↓w_AndV, ↓w_OrV, ↓w_NotV, ↓w_If, ↓w_Chain, ↓w_TruG, ↓w_TruB, ↓w_TruI, ↓w_TruN, ↓w_Tup, ↓w_Lst, ↓w_Par, ↓w_Sub, ↓w_M1, ↓w_BM, ↓w_ReplC, ↓w_RaiseC, ↓w_Fmt02, ↓w_FmtG, ↓w_FmtS, ↓w_FmtI, ↓o_AddII, ↓o_AddSS, ↓o_AddRR, ↓o_SubII, ↓o_MulII, ↓o_MulSI, ↓o_ModII, ↓o_DivII, ↓o_PowII, ↓o_LtII, ↓o_LtSS, ↓o_LeII, ↓o_LeSS, ↓o_GtII, ↓o_GtSS, ↓o_GeII, ↓o_GeSS, ↓o_EqII, ↓o_EqSS, ↓o_EqBB, ↓o_EqRR, ↓o_NeII, ↓o_NeSS, ↓o_NeBB, ↓o_NeRR, ↓o_InR, ↓o_InS, ↓o_IxS, ↓o_IxR, ↓o_SlS, ↓o_SlR, ↓o_LenS, ↓o_LenR, ↓o_IntI, ↓o_IntB, ↓o_IntS, ↓o_Abs, ↓o_Max, ↓o_Min, ↓o_Str, ↓o_Divmod, ↓x_Bl, ↓x_Int, ↓x_Str, ↓x_Ref, ↓x_StrT, ↓w_For, ↓w_Lc, ↓w_iEnum, ↓w_iZipG, ↓w_iList, ↓w_iTup, ↓w_iStr, ↓w_iR1, ↓w_iR2, cx_K, wipe, tYes, gCons_c, gNil_c, S_cat, S_nil, len_S, List.length_append, dig2_len, toS_nat, lit_colon, lit_dash, lit_e, L2.start, List.length_cons, List.length_nil, List.map_cons, List.map_nil, List.replicate, List.cons_append, List.nil_append, List.append_nil, List.getElem?_cons_zero, List.getElem?_cons_succ, Option.some.injEq, exists_eq_left', exists_eq_left, exists_eq', V.int.injEq, V.bl.injEq, V.str.injEq, V.ref.injEq, List.cons.injEq, List.set_cons_zero, List.set_cons_succ, Nat.sub_self, Nat.add_sub_cancel, Nat.zero_add, Nat.reduceSub, Nat.reduceAdd, Bool.false_eq_true, reduceIte, exN_iff, dec1, and_true, true_and, isi_ii, isi_ib, isi_ss, Bool.not_true, Bool.not_false, tNever, tJs, rNewStrs, Int.natAbs_natCast])
section
variable {P : Program} {w : World} {K : PySem.W.Frag} {mg : Str → Option Value} {base : Heap} {C_ParseError : Addr}

def sp__law_told : Sp := fun vs H Q _ => match vs with
  | [.str x] => x.length ≤ 600 ∧ ∀ p H', Same H H' → H p = none → H' p = some (.tup (told (ticksR (tl x)))) → Q (.ref p) H'
  | _ => False
theorem c__law_told {f : Addr} {fd : FuncData} (T : Txt K mg) (F : Fun K "_law_told" "_law_told" s__law_told f fd) (hm : mg "_law_told" = some (.ref f)) (C_ticks_of : CallOk P w K mg base "ticks_of" 6 ["text"] (sp_ticks_of C_ParseError)) (R_ParseError : ErrOk P w K mg base "ParseError" "spot" C_ParseError) : CallOk P w K mg base "_law_told" 7 ["text"] sp__law_told := by
  refine ⟨f, fd, hm, F.kp, F.binds (ps := ["text"]) (fun _ _ _ _ _ _ us hl => match us, hl with | [_], _ => rfl), F.okX sc__law_told (fun vs H Q E h => ?_) (fun cdv A outer s H vs Q E hr h => ⟨_, (pss_one (ps_try_as (i := 1) (Wout := fun _ _ _ _ => False) rfl rfl sc__law_told.nd rfl rfl ⟨rfl, by decide, Or.inl R_ParseError.gC⟩ takes0
      (fun W pn xe tk _ => (pss_one (ps_ret (pe_tup (pa_cons pe_str (pa_cons (pe_cS C_ticks_of (hr.mono (by decide)) (fun σ => passAt tk σ) (pa_cons (pv 0) pa_nil)) pa_nil))))))
      (fun a oe cls d pn hz hf => (pss_one (ps_ret (pe_tup (pa_cons pe_str (pa_cons (pe_xf R_ParseError.xf R_ParseError.no hz hf (pv 1)) pa_nil)))))))), ?_⟩)⟩
  · revert h
    unfold sp__law_told
    split <;> intro h <;> first | rfl | exact False.elim h
  · unfold sp__law_told at h
    split at h
    · walk_at "st"
      rename_i x
      obtain ⟨hx, q⟩ := h
      simp only [↓w_CallS, ↓w_Xf, ↓sp_ticks_of, ↓tV0, ↓gN0, ↓tV1, ↓gN1, ↓tV2, ↓gN2, ↓tV3, ↓gN3, ↓tV4, ↓gN4, ↓tV5, ↓gN5, ↓tV6, ↓gN6, ↓tV7, ↓gN7, ↓tV8, ↓gN8, ↓tV9, ↓gN9, ↓tV10, ↓gN10, ↓tV11, ↓gN11, ↓tV12, ↓gN12, ↓tV13, ↓gN13, ↓w_Ret, ↓w_RetN, ↓w_C, ↓w_Op, ↓w_Un, ↓w_UnI, ↓w_Asg, ↓w_Seq, ↓w_IfS, ↓w_Next, ↓w_Drop, ↓w_CB, ↓w_Call, ↓w_Nil, ↓w_Cons, ↓w_NoPart, ↓w_Part, ↓w_Sl, ↓w_Test, ↓w_And, ↓w_Or, ↓w_Not, ↓w_AndV, ↓w_OrV, ↓w_NotV, ↓w_If, ↓w_Chain, ↓w_TruG, ↓w_TruB, ↓w_TruI, ↓w_TruN, ↓w_Tup, ↓w_Lst, ↓w_Par, ↓w_Sub, ↓w_M1, ↓w_BM, ↓w_ReplC, ↓w_RaiseC, ↓w_Fmt02, ↓w_FmtG, ↓w_FmtS, ↓w_FmtI, ↓o_AddII, ↓o_AddSS, ↓o_AddRR, ↓o_SubII, ↓o_MulII, ↓o_MulSI, ↓o_ModII, ↓o_DivII, ↓o_PowII, ↓o_LtII, ↓o_LtSS, ↓o_LeII, ↓o_LeSS, ↓o_GtII, ↓o_GtSS, ↓o_GeII, ↓o_GeSS, ↓o_EqII, ↓o_EqSS, ↓o_EqBB, ↓o_EqRR, ↓o_NeII, ↓o_NeSS, ↓o_NeBB, ↓o_NeRR, ↓o_InR, ↓o_InS, ↓o_IxS, ↓o_IxR, ↓o_SlS, ↓o_SlR, ↓o_LenS, ↓o_LenR, ↓o_IntI, ↓o_IntB, ↓o_IntS, ↓o_Abs, ↓o_Max, ↓o_Min, ↓o_Str, ↓o_Divmod, ↓x_Bl, ↓x_Int, ↓x_Str, ↓x_Ref, ↓x_StrT, ↓w_For, ↓w_Lc, ↓w_iEnum, ↓w_iZipG, ↓w_iList, ↓w_iTup, ↓w_iStr, ↓w_iR1, ↓w_iR2, cx_K, wipe, tYes, gCons_c, gNil_c, S_cat, S_nil, len_S, List.length_append, dig2_len, toS_nat, lit_colon, lit_dash, lit_e, L2.start, List.length_cons, List.length_nil, List.map_cons, List.map_nil, List.replicate, List.cons_append, List.nil_append, List.append_nil, List.getElem?_cons_zero, List.getElem?_cons_succ, Option.some.injEq, exists_eq_left', exists_eq_left, exists_eq', V.int.injEq, V.bl.injEq, V.str.injEq, V.ref.injEq, List.cons.injEq, List.set_cons_zero, List.set_cons_succ, Nat.sub_self, Nat.add_sub_cancel, Nat.zero_add, Nat.reduceSub, Nat.reduceAdd, Bool.false_eq_true, reduceIte, exN_iff, dec1, and_true, true_and, isi_ii, isi_ib, isi_ss, Bool.not_true, Bool.not_false, tNever, tJs, rNewStrs, Int.natAbs_natCast]
      refine ⟨hx, fun e he d H1 sm hd hd1 => ?_, fun v hv H1 sm => ⟨by decide, fun p hp => ?_⟩⟩
      · refine ⟨true, R_ParseError.self, fun _ a ha => ?_, fun z => nomatch z⟩
        simp only [↓w_CallS, ↓w_Xf, ↓tV0, ↓gN0, ↓tV1, ↓gN1, ↓tV2, ↓gN2, ↓tV3, ↓gN3, ↓tV4, ↓gN4, ↓tV5, ↓gN5, ↓tV6, ↓gN6, ↓tV7, ↓gN7, ↓tV8, ↓gN8, ↓tV9, ↓gN9, ↓tV10, ↓gN10, ↓tV11, ↓gN11, ↓tV12, ↓gN12, ↓tV13, ↓gN13, ↓w_Ret, ↓w_RetN, ↓w_C, ↓w_Op, ↓w_Un, ↓w_UnI, ↓w_Asg, ↓w_Seq, ↓w_IfS, ↓w_Next, ↓w_Drop, ↓w_CB, ↓w_Call, ↓w_Nil, ↓w_Cons, ↓w_NoPart, ↓w_Part, ↓w_Sl, ↓w_Test, ↓w_And, ↓w_Or, ↓w_Not, ↓w_AndV, ↓w_OrV, ↓w_NotV, ↓w_If, ↓w_Chain, ↓w_TruG, ↓w_TruB, ↓w_TruI, ↓w_TruN, ↓w_Tup, ↓w_Lst, ↓w_Par, ↓w_Sub, ↓w_M1, ↓w_BM, ↓w_ReplC, ↓w_RaiseC, ↓w_Fmt02, ↓w_FmtG, ↓w_FmtS, ↓w_FmtI, ↓o_AddII, ↓o_AddSS, ↓o_AddRR, ↓o_SubII, ↓o_MulII, ↓o_MulSI, ↓o_ModII, ↓o_DivII, ↓o_PowII, ↓o_LtII, ↓o_LtSS, ↓o_LeII, ↓o_LeSS, ↓o_GtII, ↓o_GtSS, ↓o_GeII, ↓o_GeSS, ↓o_EqII, ↓o_EqSS, ↓o_EqBB, ↓o_EqRR, ↓o_NeII, ↓o_NeSS, ↓o_NeBB, ↓o_NeRR, ↓o_InR, ↓o_InS, ↓o_IxS, ↓o_IxR, ↓o_SlS, ↓o_SlR, ↓o_LenS, ↓o_LenR, ↓o_IntI, ↓o_IntB, ↓o_IntS, ↓o_Abs, ↓o_Max, ↓o_Min, ↓o_Str, ↓o_Divmod, ↓x_Bl, ↓x_Int, ↓x_Str, ↓x_Ref, ↓x_StrT, ↓w_For, ↓w_Lc, ↓w_iEnum, ↓w_iZipG, ↓w_iList, ↓w_iTup, ↓w_iStr, ↓w_iR1, ↓w_iR2, cx_K, wipe, tYes, gCons_c, gNil_c, S_cat, S_nil, len_S, List.length_append, dig2_len, toS_nat, lit_colon, lit_dash, lit_e, L2.start, List.length_cons, List.length_nil, List.map_cons, List.map_nil, List.replicate, List.cons_append, List.nil_append, List.append_nil, List.getElem?_cons_zero, List.getElem?_cons_succ, Option.some.injEq, exists_eq_left', exists_eq_left, exists_eq', V.int.injEq, V.bl.injEq, V.str.injEq, V.ref.injEq, List.cons.injEq, List.set_cons_zero, List.set_cons_succ, Nat.sub_self, Nat.add_sub_cancel, Nat.zero_add, Nat.reduceSub, Nat.reduceAdd, Bool.false_eq_true, reduceIte, exN_iff, dec1, and_true, true_and, isi_ii, isi_ib, isi_ss, Bool.not_true, Bool.not_false, tNever, tJs, rNewStrs, Int.natAbs_natCast]
        refine ⟨d, _, _, rfl, hd1, rfl, by decide, fun p hp => ?_⟩
        rw [he] at q
        exact q p _ (sm.trans (sameI hp)) (sm.free hp) upd_same
      · rw [hv] at q
        exact q p _ (sm.trans (sameI hp)) (sm.free hp) upd_same
    · exact h.elim
end
end K00
namespace K00
open PySem PySem.Spec PyProof.Rows L2 G
local macro_rules | `(tactic| walk_at "st") => `(tactic| simp only [L2.start, cx_K, List.length_cons, List.length_nil, List.map_cons, List.map_nil, List.replicate, List.cons_append, List.nil_append, Nat.sub_self, Nat.add_sub_cancel, Nat.reduceSub, Nat.reduceAdd, Nat.zero_add])
local macro_rules | `(tactic| walk_at "wp") => `(tactic| simp only [↓tV0, ↓gN0, ↓tV1, ↓gN1, ↓tV2, ↓gN2, ↓tV3, ↓gN3, ↓tV4, ↓gN4, ↓tV5, ↓gN5, ↓tV6, ↓gN6, ↓tV7, ↓gN7, ↓tV8, ↓gN8, ↓tV9, ↓gN9, ↓tV10, ↓gN10, ↓tV11, ↓gN11, ↓tV12, ↓gN12, ↓tV13, ↓gN13, ↓w_Ret, ↓w_RetN, ↓w_C, ↓w_Op, ↓w_Un, ↓w_UnI, ↓w_Asg, ↓w_Seq, ↓w_IfS, ↓w_Next, ↓w_Drop, ↓w_CB, ↓w_Call, ↓w_Nil, ↓w_Cons, ↓w_NoPart, ↓w_Part, ↓w_Sl, ↓w_Test, ↓w_And, ↓w_Or, ↓w_Not, ↓w_AndV, ↓w_OrV, ↓w_NotV, ↓w_If, ↓w_Chain, ↓w_TruG, ↓w_TruB, ↓w_TruI, ↓w_TruN, ↓w_Tup, ↓w_Lst, ↓w_Par, ↓w_Sub, ↓w_M1, ↓w_BM, ↓w_ReplC, ↓w_RaiseC, ↓w_Fmt02, ↓w_FmtG, ↓w_FmtS, ↓w_FmtI, ↓o_AddII, ↓o_AddSS, ↓o_AddRR, ↓o_SubII, ↓o_MulII, ↓o_MulSI, ↓o_ModII, ↓o_DivII, ↓o_PowII, ↓o_LtII, ↓o_LtSS, ↓o_LeII, ↓o_LeSS, ↓o_GtII, ↓o_GtSS, ↓o_GeII, ↓o_GeSS, ↓o_EqII, ↓o_EqSS, ↓o_EqBB, ↓o_EqRR, ↓o_NeII, ↓o_NeSS, ↓o_NeBB, ↓o_NeRR, ↓o_InR, ↓o_InS, ↓o_IxS, ↓o_IxR, ↓o_SlS, ↓o_SlR, ↓o_LenS, ↓o_LenR, ↓o_IntI, ↓o_IntB, ↓o_IntS, ↓o_Abs, ↓o_Max, ↓o_Min, ↓o_Str, ↓o_Divmod, ↓x_Bl, ↓x_Int, ↓x_Str, ↓x_Ref, ↓x_StrT, ↓w_For, ↓w_Lc, ↓w_iEnum, ↓w_iZipG, ↓w_iList, ↓w_iTup, ↓w_iStr, ↓w_iR1, ↓w_iR2, cx_K, wipe, tYes, gCons_c, gNil_c, S_cat, S_nil, len_S, List.length_append, dig2_len, toS_nat, lit_colon, lit_dash, lit_e, L2.start, List.length_cons, List.length_nil, List.map_cons, List.map_nil, List.replicate, List.cons_append, List.nil_append, List.append_nil, List.getElem?_cons_zero, List.getElem?_cons_succ, Option.some.injEq, exists_eq_left', exists_eq_left, exists_eq', V.int.injEq, V.bl.injEq, V.str.injEq, V.ref.injEq, List.cons.injEq, List.set_cons_zero, List.set_cons_succ, Nat.sub_self, Nat.add_sub_cancel, Nat.zero_add, Nat.reduceSub, Nat.reduceAdd, Bool.false_eq_true, reduceIte, exN_iff, dec1, and_true, true_and, isi_ii, isi_ib, isi_ss, Bool.not_true, Bool.not_false, tNever, tJs, rNewStrs, Int.natAbs_natCast])
section
variable {P : Program} {w : World} {K : PySem.W.Frag} {mg : Str → Option Value} {base : Heap} {C_ParseError : Addr}

theorem Moved.refl {d : Addr} {H : Hp} (h : DiceAt H d) : Moved d H H := ⟨h, fun _ _ _ e => e⟩
theorem Moved.trans {d : Addr} {H H1 H2 : Hp} (a : Moved d H H1) (b : Moved d H1 H2) : Moved d H H2 := ⟨b.1, fun x o n e => b.2 x o n (a.2 x o n e)⟩
theorem DiceAt.new {d p : Addr} {H : Hp} {o : HO} (h : DiceAt H d) (hp : H p = none) : DiceAt (upd H p o) d := by
  obtain ⟨x, y, z, e⟩ := h
  exact ⟨x, y, z, by rw [upd_ne (ne_of_none e hp)]; exact e⟩
theorem Moved.new {d p : Addr} {H H1 : Hp} {o : HO} (h : Moved d H H1) (hp : H1 p = none) : Moved d H (upd H1 p o) :=
  ⟨h.1.new hp, fun x u n e => by
    have := h.2 x u n e
    rw [upd_ne (ne_of_none this hp)]
    exact this⟩
theorem Moved.same {d : Addr} {H H1 H2 : Hp} (h : Moved d H H1) (s : Same H1 H2) : Moved d H H2 := by
  obtain ⟨x, y, z, e⟩ := h.1
  exact ⟨⟨x, y, z, s _ _ e⟩, fun b o n u => s _ _ (h.2 b o n u)⟩
theorem numL_dig (n : Nat) : ∀ c ∈ numL n, c < 128 := fun c hc => by
  rw [numL_eq] at hc
  obtain ⟨k, hk, rfl⟩ := List.mem_map.mp hc
  have h := Nat.isDigit_of_mem_toDigits (b := 10) (by decide) (by decide) hk
  unfold Char.isDigit at h
  rw [Bool.and_eq_true, decide_eq_true_eq, decide_eq_true_eq] at h
  have h2 : k.val.toNat ≤ '9'.val.toNat := h.2
  have h3 : '9'.val.toNat = 57 := by decide
  show k.val.toNat < 128
  omega
theorem zeros_dig (w n : Nat) : ∀ c ∈ zeros w n, c < 128 := fun c hc => by
  rcases List.mem_append.mp hc with h | h
  · rw [(List.mem_replicate.mp h).2]
    decide
  · exact numL_dig n c h
theorem zeros_len (w n : Nat) : (zeros w n).length ≤ w + (numL n).length := by
  unfold zeros
  rw [List.length_append, List.length_replicate]
  omega
def Short (n : Nat) (x : Str) : Prop := x.length ≤ n ∧ ∀ c ∈ tl x, c < 128
def okV (n : Nat) (v : V) : Bool := match v with
  | .str x => decide (x.length ≤ n) && (tl x).all fun c => decide (c < 128)
  | _ => false
theorem okV_of {n i : Nat} {xs : List V} {v : V} (h : xs.all (okV n) = true) (e : xs[i]? = some v) : ∃ x, v = .str x ∧ Short n x := by
  have h2 := List.all_eq_true.mp h v (List.mem_of_getElem? e)
  cases v with
  | str x =>
    rw [okV, Bool.and_eq_true, decide_eq_true_eq] at h2
    exact ⟨x, rfl, h2.1, fun c hc => of_decide_eq_true (List.all_eq_true.mp h2.2 c hc)⟩
  | _ => cases h2
def okI (n : Int) (v : V) : Bool := match v with
  | .int i => decide (0 < i) && decide (i ≤ n)
  | _ => false
theorem okI_of {n : Int} {i : Nat} {xs : List V} {v : V} (h : xs.all (okI n) = true) (e : xs[i]? = some v) : ∃ j, v = .int j ∧ 0 < j ∧ j ≤ n := by
  have h2 := List.all_eq_true.mp h v (List.mem_of_getElem? e)
  cases v with
  | int j =>
    rw [okI, Bool.and_eq_true, decide_eq_true_eq, decide_eq_true_eq] at h2
    exact ⟨j, rfl, h2.1, h2.2⟩
  | _ => cases h2
theorem ne_dice {d p : Addr} {H : Hp} (h : DiceAt H d) (hp : H p = none) : p ≠ d := by
  obtain ⟨x, y, z, e⟩ := h
  exact Ne.symm (ne_of_none e hp)
theorem Short.cat {a b : Nat} {x y : Str} (h : Short a x) (k : Short b y) : Short (a + b) (x ++ y) := by
  refine ⟨?_, fun c hc => ?_⟩
  · rw [len_tl, tl_cat, List.length_append, ← len_tl, ← len_tl]
    exact Nat.add_le_add h.1 k.1
  · rw [tl_cat] at hc
    rcases List.mem_append.mp hc with q | q
    · exact h.2 c q
    · exact k.2 c q
theorem Short.mono {a b : Nat} {x : Str} (h : Short a x) (k : a ≤ b) : Short b x := ⟨Nat.le_trans h.1 k, h.2⟩
theorem Short.zeros {w n k : Nat} (hn : n < 10 ^ k) (hk : 0 < k) : Short (w + k) (S (zeros w n)) := by
  refine ⟨?_, zeros_dig w n⟩
  rw [len_S]
  have := zeros_len w n
  have := numL_len hn hk
  omega
theorem Short.len {a : Nat} {x : Str} (h : Short a x) (k : a ≤ 100000) : x.length ≤ sizeLine := line_of (Nat.le_trans h.1 k)
def sp__law_drawn (K : PySem.W.Frag) : Sp := fun vs H Q _ => match vs with
  | [.ref d] => DiceAt H d ∧ ∀ x H', Short 40 x → Moved d H H' → Q (.str x) H'
  | _ => False
theorem c__law_drawn {f : Addr} {fd : FuncData} (T : Txt K mg) (F : Fun K "_law_drawn" "_law_drawn" s__law_drawn f fd) (hm : mg "_law_drawn" = some (.ref f)) (C__law_digits : CallOk P w K mg base "_law_digits" 1 ["number", "wide"] sp__law_digits) (C__law_pick : CallOk P w K mg base "_law_pick" 2 ["dice", "items"] (sp__law_pick K)) (C__law_roll : CallOk P w K mg base "_law_roll" 1 ["dice", "total"] sp__law_roll) : CallOk P w K mg base "_law_drawn" 3 ["dice"] (sp__law_drawn K) := by
  refine ⟨f, fd, hm, F.kp, F.binds (ps := ["dice"]) (fun _ _ _ _ _ _ us hl => match us, hl with | [_], _ => rfl), F.okX sc__law_drawn (fun vs H Q E h => ?_) (fun cdv A outer s H vs Q E hr h => ⟨_, (pss_cons (ps_par (i := 1) (j := 2) (by rfl) sc__law_drawn.nd rfl rfl (by decide) rfl rfl (pa_cons (pe_c0 C__law_pick (hr.mono (by decide)) (pa_cons (pv 0) (pa_cons (pe_lst (pa_cons pe_str (pa_cons pe_str (pa_cons pe_str (pa_cons pe_str (pa_cons pe_str (pa_cons pe_str pa_nil))))))) pa_nil))) (pa_cons (pe_c0 C__law_pick (hr.mono (by decide)) (pa_cons (pv 0) (pa_cons (pe_lst (pa_cons pe_int (pa_cons pe_int (pa_cons pe_int (pa_cons pe_int pa_nil))))) pa_nil))) pa_nil)) (by rfl))
      (pss_cons (ps_set (i := 3) sc__law_drawn.nd rfl (Or.inl rfl) (pe_c0 C__law_digits (hr.mono (by decide)) (pa_cons (pe_c0 C__law_roll (hr.mono (by decide)) (pa_cons (pv 0) (pa_cons (pv 2) pa_nil))) (pa_cons (pe_op op_addG pe_int (pe_c0 C__law_roll (hr.mono (by decide)) (pa_cons (pv 0) (pa_cons pe_int pa_nil)))) pa_nil))))
      (pss_cons (ps_for (passes_of rfl) rfl (pi_str (pv 1)) (pg_name (i := 4) sc__law_drawn.nd rfl (Or.inl rfl)) (pss_one (ps_set (i := 3) sc__law_drawn.nd rfl (Or.inl rfl) (pe_op op_addG (pe_op op_addG (pv 3) (pv 4)) (pe_c0 C__law_digits (hr.mono (by decide)) (pa_cons (pe_c0 C__law_roll (hr.mono (by decide)) (pa_cons (pv 0) (pa_cons (pe_ifExp (pt_cmpR (op_eqG hr.units) (pv 4) pe_str (nomark _)) pe_int pe_int) pa_nil))) (pa_cons (pe_op op_addG pe_int (pe_c0 C__law_roll (hr.mono (by decide)) (pa_cons (pv 0) (pa_cons pe_int pa_nil)))) pa_nil)))))))
      (pss_one (ps_ret (pv 3)))))), ?_⟩)⟩
  · revert h
    unfold sp__law_drawn
    split <;> intro h <;> first | rfl | exact False.elim h
  · unfold sp__law_drawn at h
    split at h
    · walk_at "st"
      rename_i d
      obtain ⟨hd, q⟩ := h
      simp only [↓sp__law_pick, ↓tV0, ↓gN0, ↓tV1, ↓gN1, ↓tV2, ↓gN2, ↓tV3, ↓gN3, ↓tV4, ↓gN4, ↓tV5, ↓gN5, ↓tV6, ↓gN6, ↓tV7, ↓gN7, ↓tV8, ↓gN8, ↓tV9, ↓gN9, ↓tV10, ↓gN10, ↓tV11, ↓gN11, ↓tV12, ↓gN12, ↓tV13, ↓gN13, ↓w_Ret, ↓w_RetN, ↓w_C, ↓w_Op, ↓w_Un, ↓w_UnI, ↓w_Asg, ↓w_Seq, ↓w_IfS, ↓w_Next, ↓w_Drop, ↓w_CB, ↓w_Call, ↓w_Nil, ↓w_Cons, ↓w_NoPart, ↓w_Part, ↓w_Sl, ↓w_Test, ↓w_And, ↓w_Or, ↓w_Not, ↓w_AndV, ↓w_OrV, ↓w_NotV, ↓w_If, ↓w_Chain, ↓w_TruG, ↓w_TruB, ↓w_TruI, ↓w_TruN, ↓w_Tup, ↓w_Lst, ↓w_Par, ↓w_Sub, ↓w_M1, ↓w_BM, ↓w_ReplC, ↓w_RaiseC, ↓w_Fmt02, ↓w_FmtG, ↓w_FmtS, ↓w_FmtI, ↓o_AddII, ↓o_AddSS, ↓o_AddRR, ↓o_SubII, ↓o_MulII, ↓o_MulSI, ↓o_ModII, ↓o_DivII, ↓o_PowII, ↓o_LtII, ↓o_LtSS, ↓o_LeII, ↓o_LeSS, ↓o_GtII, ↓o_GtSS, ↓o_GeII, ↓o_GeSS, ↓o_EqII, ↓o_EqSS, ↓o_EqBB, ↓o_EqRR, ↓o_NeII, ↓o_NeSS, ↓o_NeBB, ↓o_NeRR, ↓o_InR, ↓o_InS, ↓o_IxS, ↓o_IxR, ↓o_SlS, ↓o_SlR, ↓o_LenS, ↓o_LenR, ↓o_IntI, ↓o_IntB, ↓o_IntS, ↓o_Abs, ↓o_Max, ↓o_Min, ↓o_Str, ↓o_Divmod, ↓x_Bl, ↓x_Int, ↓x_Str, ↓x_Ref, ↓x_StrT, ↓w_For, ↓w_Lc, ↓w_iEnum, ↓w_iZipG, ↓w_iList, ↓w_iTup, ↓w_iStr, ↓w_iR1, ↓w_iR2, cx_K, wipe, tYes, gCons_c, gNil_c, S_cat, S_nil, len_S, List.length_append, dig2_len, toS_nat, lit_colon, lit_dash, lit_e, L2.start, List.length_cons, List.length_nil, List.map_cons, List.map_nil, List.replicate, List.cons_append, List.nil_append, List.append_nil, List.getElem?_cons_zero, List.getElem?_cons_succ, Option.some.injEq, exists_eq_left', exists_eq_left, exists_eq', V.int.injEq, V.bl.injEq, V.str.injEq, V.ref.injEq, List.cons.injEq, List.set_cons_zero, List.set_cons_succ, Nat.sub_self, Nat.add_sub_cancel, Nat.zero_add, Nat.reduceSub, Nat.reduceAdd, Bool.false_eq_true, reduceIte, exN_iff, dec1, and_true, true_and, isi_ii, isi_ib, isi_ss, Bool.not_true, Bool.not_false, tNever, tJs, rNewStrs, Int.natAbs_natCast]
      refine ⟨line_of (by decide), fun p hp => ⟨hd.new hp, ne_dice hd hp, _, upd_same, by simp, by decide, fun i v H1 hv mv => ?_⟩⟩
      obtain ⟨sg, rfl, hsg⟩ := okV_of (n := 3) (by decide +kernel) hv
      have mv1 : Moved d H H1 := ((Moved.refl hd).new hp).trans mv
      refine ⟨line_of (by decide), fun p2 hp2 => ⟨mv1.1.new hp2, ne_dice mv1.1 hp2, _, upd_same, by simp, by decide, fun i2 v2 H2 hv2 mv' => ?_⟩⟩
      obtain ⟨t, rfl, t0, t1⟩ := okI_of (n := 17000) (by decide +kernel) hv2
      have mv2 : Moved d H H2 := (mv1.new hp2).trans mv'
      simp only [↓sp__law_roll, ↓tV0, ↓gN0, ↓tV1, ↓gN1, ↓tV2, ↓gN2, ↓tV3, ↓gN3, ↓tV4, ↓gN4, ↓tV5, ↓gN5, ↓tV6, ↓gN6, ↓tV7, ↓gN7, ↓tV8, ↓gN8, ↓tV9, ↓gN9, ↓tV10, ↓gN10, ↓tV11, ↓gN11, ↓tV12, ↓gN12, ↓tV13, ↓gN13, ↓w_Ret, ↓w_RetN, ↓w_C, ↓w_Op, ↓w_Un, ↓w_UnI, ↓w_Asg, ↓w_Seq, ↓w_IfS, ↓w_Next, ↓w_Drop, ↓w_CB, ↓w_Call, ↓w_Nil, ↓w_Cons, ↓w_NoPart, ↓w_Part, ↓w_Sl, ↓w_Test, ↓w_And, ↓w_Or, ↓w_Not, ↓w_AndV, ↓w_OrV, ↓w_NotV, ↓w_If, ↓w_Chain, ↓w_TruG, ↓w_TruB, ↓w_TruI, ↓w_TruN, ↓w_Tup, ↓w_Lst, ↓w_Par, ↓w_Sub, ↓w_M1, ↓w_BM, ↓w_ReplC, ↓w_RaiseC, ↓w_Fmt02, ↓w_FmtG, ↓w_FmtS, ↓w_FmtI, ↓o_AddII, ↓o_AddSS, ↓o_AddRR, ↓o_SubII, ↓o_MulII, ↓o_MulSI, ↓o_ModII, ↓o_DivII, ↓o_PowII, ↓o_LtII, ↓o_LtSS, ↓o_LeII, ↓o_LeSS, ↓o_GtII, ↓o_GtSS, ↓o_GeII, ↓o_GeSS, ↓o_EqII, ↓o_EqSS, ↓o_EqBB, ↓o_EqRR, ↓o_NeII, ↓o_NeSS, ↓o_NeBB, ↓o_NeRR, ↓o_InR, ↓o_InS, ↓o_IxS, ↓o_IxR, ↓o_SlS, ↓o_SlR, ↓o_LenS, ↓o_LenR, ↓o_IntI, ↓o_IntB, ↓o_IntS, ↓o_Abs, ↓o_Max, ↓o_Min, ↓o_Str, ↓o_Divmod, ↓x_Bl, ↓x_Int, ↓x_Str, ↓x_Ref, ↓x_StrT, ↓w_For, ↓w_Lc, ↓w_iEnum, ↓w_iZipG, ↓w_iList, ↓w_iTup, ↓w_iStr, ↓w_iR1, ↓w_iR2, cx_K, wipe, tYes, gCons_c, gNil_c, S_cat, S_nil, len_S, List.length_append, dig2_len, toS_nat, lit_colon, lit_dash, lit_e, L2.start, List.length_cons, List.length_nil, List.map_cons, List.map_nil, List.replicate, List.cons_append, List.nil_append, List.append_nil, List.getElem?_cons_zero, List.getElem?_cons_succ, Option.some.injEq, exists_eq_left', exists_eq_left, exists_eq', V.int.injEq, V.bl.injEq, V.str.injEq, V.ref.injEq, List.cons.injEq, List.set_cons_zero, List.set_cons_succ, Nat.sub_self, Nat.add_sub_cancel, Nat.zero_add, Nat.reduceSub, Nat.reduceAdd, Bool.false_eq_true, reduceIte, exN_iff, dec1, and_true, true_and, isi_ii, isi_ib, isi_ss, Bool.not_true, Bool.not_false, tNever, tJs, rNewStrs, Int.natAbs_natCast]
      refine ⟨t0, ?_, mv2.1, fun r H3 r0 r1 mv3 => ⟨by decide, by decide +kernel, mv3.1, fun r' H4 r0' r1' mv4 => ?_⟩⟩
      · have : t.natAbs.log2 < 60 := by
          by_cases hz : t.natAbs = 0
          · omega
          · exact (Nat.log2_lt hz).mpr (by omega)
        omega
      · simp only [↓sp__law_digits, ↓tV0, ↓gN0, ↓tV1, ↓gN1, ↓tV2, ↓gN2, ↓tV3, ↓gN3, ↓tV4, ↓gN4, ↓tV5, ↓gN5, ↓tV6, ↓gN6, ↓tV7, ↓gN7, ↓tV8, ↓gN8, ↓tV9, ↓gN9, ↓tV10, ↓gN10, ↓tV11, ↓gN11, ↓tV12, ↓gN12, ↓tV13, ↓gN13, ↓w_Ret, ↓w_RetN, ↓w_C, ↓w_Op, ↓w_Un, ↓w_UnI, ↓w_Asg, ↓w_Seq, ↓w_IfS, ↓w_Next, ↓w_Drop, ↓w_CB, ↓w_Call, ↓w_Nil, ↓w_Cons, ↓w_NoPart, ↓w_Part, ↓w_Sl, ↓w_Test, ↓w_And, ↓w_Or, ↓w_Not, ↓w_AndV, ↓w_OrV, ↓w_NotV, ↓w_If, ↓w_Chain, ↓w_TruG, ↓w_TruB, ↓w_TruI, ↓w_TruN, ↓w_Tup, ↓w_Lst, ↓w_Par, ↓w_Sub, ↓w_M1, ↓w_BM, ↓w_ReplC, ↓w_RaiseC, ↓w_Fmt02, ↓w_FmtG, ↓w_FmtS, ↓w_FmtI, ↓o_AddII, ↓o_AddSS, ↓o_AddRR, ↓o_SubII, ↓o_MulII, ↓o_MulSI, ↓o_ModII, ↓o_DivII, ↓o_PowII, ↓o_LtII, ↓o_LtSS, ↓o_LeII, ↓o_LeSS, ↓o_GtII, ↓o_GtSS, ↓o_GeII, ↓o_GeSS, ↓o_EqII, ↓o_EqSS, ↓o_EqBB, ↓o_EqRR, ↓o_NeII, ↓o_NeSS, ↓o_NeBB, ↓o_NeRR, ↓o_InR, ↓o_InS, ↓o_IxS, ↓o_IxR, ↓o_SlS, ↓o_SlR, ↓o_LenS, ↓o_LenR, ↓o_IntI, ↓o_IntB, ↓o_IntS, ↓o_Abs, ↓o_Max, ↓o_Min, ↓o_Str, ↓o_Divmod, ↓x_Bl, ↓x_Int, ↓x_Str, ↓x_Ref, ↓x_StrT, ↓w_For, ↓w_Lc, ↓w_iEnum, ↓w_iZipG, ↓w_iList, ↓w_iTup, ↓w_iStr, ↓w_iR1, ↓w_iR2, cx_K, wipe, tYes, gCons_c, gNil_c, S_cat, S_nil, len_S, List.length_append, dig2_len, toS_nat, lit_colon, lit_dash, lit_e, L2.start, List.length_cons, List.length_nil, List.map_cons, List.map_nil, List.replicate, List.cons_append, List.nil_append, List.append_nil, List.getElem?_cons_zero, List.getElem?_cons_succ, Option.some.injEq, exists_eq_left', exists_eq_left, exists_eq', V.int.injEq, V.bl.injEq, V.str.injEq, V.ref.injEq, List.cons.injEq, List.set_cons_zero, List.set_cons_succ, Nat.sub_self, Nat.add_sub_cancel, Nat.zero_add, Nat.reduceSub, Nat.reduceAdd, Bool.false_eq_true, reduceIte, exN_iff, dec1, and_true, true_and, isi_ii, isi_ib, isi_ss, Bool.not_true, Bool.not_false, tNever, tJs, rNewStrs, Int.natAbs_natCast]
        have mvA : Moved d H H4 := (mv2.trans mv3).trans mv4
        obtain ⟨n, rfl⟩ := Int.eq_ofNat_of_zero_le r0
        obtain ⟨w, rfl⟩ := Int.eq_ofNat_of_zero_le r0'
        refine ⟨by omega, by omega, by omega, by omega, ?_⟩
        have ew : (1 + (w : Int)).toNat = 1 + w := by omega
        rw [ew, Int.toNat_natCast]
        have hz : Short (4 + 5) (S (zeros (1 + w) n)) := by
          have := Short.zeros (w := 1 + w) (n := n) (k := 5) (by omega) (by decide)
          exact this.mono (by omega)
        refine Loop.by (walk_str (z := sg)) (fun i σ H' => Moved d H H' ∧ ∃ (y : Str) (s4 : Option V), Short (9 + 5 * i) y ∧ σ = [some (V.ref d), some (V.str sg), some (V.int t), some (V.str y), s4])
          ⟨mvA, _, none, hz, rfl⟩ (fun _ _ _ _ _ => trivial) ?_ ?_
        · rintro i3 y3 σ H5 H6 hi ⟨mv5, y, s4, hy, rfl⟩ ⟨rfl, c, hc, rfl⟩
          have hi3 : i3 < 3 := Nat.lt_of_lt_of_le hi hsg.1
          have hc2 : c < 128 := hsg.2 c (List.mem_of_getElem? (show (tl sg)[i3]? = some c by rw [← hc]; exact Array.getElem?_toList))
          have h1 : Short 1 (⟨#[c]⟩ : Str) := ⟨Nat.le_refl _, fun k hk => by
            have e : k = c := List.mem_singleton.mp hk
            rw [e]
            exact hc2⟩
          simp only [↓sp__law_roll, ↓sp__law_digits, ↓tV0, ↓gN0, ↓tV1, ↓gN1, ↓tV2, ↓gN2, ↓tV3, ↓gN3, ↓tV4, ↓gN4, ↓tV5, ↓gN5, ↓tV6, ↓gN6, ↓tV7, ↓gN7, ↓tV8, ↓gN8, ↓tV9, ↓gN9, ↓tV10, ↓gN10, ↓tV11, ↓gN11, ↓tV12, ↓gN12, ↓tV13, ↓gN13, ↓w_Ret, ↓w_RetN, ↓w_C, ↓w_Op, ↓w_Un, ↓w_UnI, ↓w_Asg, ↓w_Seq, ↓w_IfS, ↓w_Next, ↓w_Drop, ↓w_CB, ↓w_Call, ↓w_Nil, ↓w_Cons, ↓w_NoPart, ↓w_Part, ↓w_Sl, ↓w_Test, ↓w_And, ↓w_Or, ↓w_Not, ↓w_AndV, ↓w_OrV, ↓w_NotV, ↓w_If, ↓w_Chain, ↓w_TruG, ↓w_TruB, ↓w_TruI, ↓w_TruN, ↓w_Tup, ↓w_Lst, ↓w_Par, ↓w_Sub, ↓w_M1, ↓w_BM, ↓w_ReplC, ↓w_RaiseC, ↓w_Fmt02, ↓w_FmtG, ↓w_FmtS, ↓w_FmtI, ↓o_AddII, ↓o_AddSS, ↓o_AddRR, ↓o_SubII, ↓o_MulII, ↓o_MulSI, ↓o_ModII, ↓o_DivII, ↓o_PowII, ↓o_LtII, ↓o_LtSS, ↓o_LeII, ↓o_LeSS, ↓o_GtII, ↓o_GtSS, ↓o_GeII, ↓o_GeSS, ↓o_EqII, ↓o_EqSS, ↓o_EqBB, ↓o_EqRR, ↓o_NeII, ↓o_NeSS, ↓o_NeBB, ↓o_NeRR, ↓o_InR, ↓o_InS, ↓o_IxS, ↓o_IxR, ↓o_SlS, ↓o_SlR, ↓o_LenS, ↓o_LenR, ↓o_IntI, ↓o_IntB, ↓o_IntS, ↓o_Abs, ↓o_Max, ↓o_Min, ↓o_Str, ↓o_Divmod, ↓x_Bl, ↓x_Int, ↓x_Str, ↓x_Ref, ↓x_StrT, ↓w_For, ↓w_Lc, ↓w_iEnum, ↓w_iZipG, ↓w_iList, ↓w_iTup, ↓w_iStr, ↓w_iR1, ↓w_iR2, cx_K, wipe, tYes, gCons_c, gNil_c, S_cat, S_nil, len_S, List.length_append, dig2_len, toS_nat, lit_colon, lit_dash, lit_e, L2.start, List.length_cons, List.length_nil, List.map_cons, List.map_nil, List.replicate, List.cons_append, List.nil_append, List.append_nil, List.getElem?_cons_zero, List.getElem?_cons_succ, Option.some.injEq, exists_eq_left', exists_eq_left, exists_eq', V.int.injEq, V.bl.injEq, V.str.injEq, V.ref.injEq, List.cons.injEq, List.set_cons_zero, List.set_cons_succ, Nat.sub_self, Nat.add_sub_cancel, Nat.zero_add, Nat.reduceSub, Nat.reduceAdd, Bool.false_eq_true, reduceIte, exN_iff, dec1, and_true, true_and, isi_ii, isi_ib, isi_ss, Bool.not_true, Bool.not_false, tNever, tJs, rNewStrs, Int.natAbs_natCast]
          have fin : ∀ (T : Int), 0 < T → T ≤ 62 → 0 < T ∧ T.natAbs.log2 < 1000 ∧ DiceAt H6 d ∧ ∀ (r : Int) (H' : Hp), 0 ≤ r → r < T → Moved d H6 H' → 0 < (2 : Int) ∧ (Int.natAbs 2).log2 < 1000 ∧ DiceAt H' d ∧ ∀ (r_1 : Int) (H'_1 : Hp), 0 ≤ r_1 → r_1 < 2 → Moved d H' H'_1 →
              0 ≤ r ∧ r < 10 ^ 20 ∧ 0 ≤ 1 + r_1 ∧ 1 + r_1 < 20 ∧ (y ++ (⟨#[c]⟩ : Str)).length + (zeros (1 + r_1).toNat r.toNat).length ≤ sizeLine ∧ Moved d H H'_1 ∧
                ∃ (y_1 : Str) (s4 : Option V), Short (9 + 5 * (i3 + 1)) y_1 ∧ y ++ (⟨#[c]⟩ : Str) ++ S (zeros (1 + r_1).toNat r.toNat) = y_1 ∧ some (V.str ⟨#[c]⟩) = s4 := by
            intro T T0 T1
            refine ⟨T0, ?_, mv5.1, fun r H7 r0 r1 mv7 => ⟨by decide, by decide +kernel, mv7.1, fun r2 H8 r20 r21 mv8 => ⟨r0, by omega, by omega, by omega, ?_, (mv5.trans mv7).trans mv8, _, _, ?_, rfl, rfl⟩⟩⟩
            · have : T.natAbs.log2 < 60 := (Nat.log2_lt (by omega)).mpr (by omega)
              omega
            · have hzz := Short.zeros (w := (1 + r2).toNat) (n := r.toNat) (k := 2) (by omega) (by decide)
              have := ((hy.cat h1).cat (hzz.mono (show _ ≤ 4 by omega))).1
              rw [len_tl, tl_cat, List.length_append, ← len_tl] at this
              exact line_of (Nat.le_trans this (by omega))
            · have hzz := Short.zeros (w := (1 + r2).toNat) (n := r.toNat) (k := 2) (by omega) (by decide)
              exact ((hy.cat h1).cat (hzz.mono (show _ ≤ 4 by omega))).mono (by omega)
          have hy1 := hy.1
          refine ⟨line_of (by omega), ?_⟩
          by_cases hcc : c = 45
          · rw [if_pos (decide_eq_true hcc)]
            exact fin 26 (by decide) (by decide)
          · rw [if_neg (by intro z; exact hcc (of_decide_eq_true z))]
            exact fin 62 (by decide) (by decide)
        · rintro σ H5 ⟨mv5, y, s4, hy, rfl⟩
          walk_at "wp"
          refine q y H5 (hy.mono ?_) mv5
          have := hsg.1
          show 9 + 5 * sg.length ≤ 40
          omega
    · exact h.elim
def sp__law_spoilt (K : PySem.W.Frag) : Sp := fun vs H Q _ => match vs with
  | [.ref d, .str x] => DiceAt H d ∧ Short 300 x ∧ ∀ y H', Short (x.length + 8) y → Moved d H H' → Q (.str y) H'
  | _ => False
theorem c__law_spoilt {f : Addr} {fd : FuncData} (T : Txt K mg) (F : Fun K "_law_spoilt" "_law_spoilt" s__law_spoilt f fd) (hm : mg "_law_spoilt" = some (.ref f)) (C__law_pick : CallOk P w K mg base "_law_pick" 2 ["dice", "items"] (sp__law_pick K)) (C__law_roll : CallOk P w K mg base "_law_roll" 1 ["dice", "total"] sp__law_roll) : CallOk P w K mg base "_law_spoilt" 3 ["dice", "text"] (sp__law_spoilt K) := by
  refine ⟨f, fd, hm, F.kp, F.binds (ps := ["dice", "text"]) (fun _ _ _ _ _ _ us hl => match us, hl with | [_, _], _ => rfl), F.okX sc__law_spoilt (fun vs H Q E h => ?_) (fun cdv A outer s H vs Q E hr h => ⟨_, (pss_cons (ps_par (i := 2) (j := 3) (by rfl) sc__law_spoilt.nd rfl rfl (by decide) rfl rfl (pa_cons (pe_c0 C__law_roll (hr.mono (by decide)) (pa_cons (pv 0) (pa_cons (pe_op op_addG (pe_callB call_lenG (by rfl) T.n_len (by decide +kernel) (pa_cons (pv 1) pa_nil)) pe_int) pa_nil))) (pa_cons (pe_c0 C__law_roll (hr.mono (by decide)) (pa_cons (pv 0) (pa_cons pe_int pa_nil))) pa_nil)) (by rfl))
      (pss_cons (ps_set (i := 4) sc__law_spoilt.nd rfl (Or.inl rfl) (pe_c0 C__law_pick (hr.mono (by decide)) (pa_cons (pv 0) (pa_cons (pe_lst (pa_cons pe_str (pa_cons pe_str (pa_cons pe_str (pa_cons pe_str (pa_cons pe_str (pa_cons pe_str (pa_cons pe_str (pa_cons pe_str (pa_cons pe_str pa_nil)))))))))) pa_nil))))
      (pss_one (ps_ret (pe_op op_addG (pe_op op_addG (pe_slice sl_G (pv 1) po_none (po_some (pv 2))) (pe_ifExp (pt_cmpR (op_neG hr.units) (pv 3) pe_int (nomark _)) (pv 4) pe_str)) (pe_slice sl_G (pv 1) (po_some (pe_op op_addG (pv 2) (pe_callTy call_intG (by rfl) T.n_int (by decide +kernel) (pa_cons (pe_cmpR op_gtG (pv 3) pe_int (nomark _)) pa_nil)))) po_none)))))), ?_⟩)⟩
  · revert h
    unfold sp__law_spoilt
    split <;> intro h <;> first | rfl | exact False.elim h
  · unfold sp__law_spoilt at h
    split at h
    · walk_at "st"
      rename_i d x
      obtain ⟨hd, hx, q⟩ := h
      simp only [↓sp__law_pick, ↓sp__law_roll, ↓tV0, ↓gN0, ↓tV1, ↓gN1, ↓tV2, ↓gN2, ↓tV3, ↓gN3, ↓tV4, ↓gN4, ↓tV5, ↓gN5, ↓tV6, ↓gN6, ↓tV7, ↓gN7, ↓tV8, ↓gN8, ↓tV9, ↓gN9, ↓tV10, ↓gN10, ↓tV11, ↓gN11, ↓tV12, ↓gN12, ↓tV13, ↓gN13, ↓w_Ret, ↓w_RetN, ↓w_C, ↓w_Op, ↓w_Un, ↓w_UnI, ↓w_Asg, ↓w_Seq, ↓w_IfS, ↓w_Next, ↓w_Drop, ↓w_CB, ↓w_Call, ↓w_Nil, ↓w_Cons, ↓w_NoPart, ↓w_Part, ↓w_Sl, ↓w_Test, ↓w_And, ↓w_Or, ↓w_Not, ↓w_AndV, ↓w_OrV, ↓w_NotV, ↓w_If, ↓w_Chain, ↓w_TruG, ↓w_TruB, ↓w_TruI, ↓w_TruN, ↓w_Tup, ↓w_Lst, ↓w_Par, ↓w_Sub, ↓w_M1, ↓w_BM, ↓w_ReplC, ↓w_RaiseC, ↓w_Fmt02, ↓w_FmtG, ↓w_FmtS, ↓w_FmtI, ↓o_AddII, ↓o_AddSS, ↓o_AddRR, ↓o_SubII, ↓o_MulII, ↓o_MulSI, ↓o_ModII, ↓o_DivII, ↓o_PowII, ↓o_LtII, ↓o_LtSS, ↓o_LeII, ↓o_LeSS, ↓o_GtII, ↓o_GtSS, ↓o_GeII, ↓o_GeSS, ↓o_EqII, ↓o_EqSS, ↓o_EqBB, ↓o_EqRR, ↓o_NeII, ↓o_NeSS, ↓o_NeBB, ↓o_NeRR, ↓o_InR, ↓o_InS, ↓o_IxS, ↓o_IxR, ↓o_SlS, ↓o_SlR, ↓o_LenS, ↓o_LenR, ↓o_IntI, ↓o_IntB, ↓o_IntS, ↓o_Abs, ↓o_Max, ↓o_Min, ↓o_Str, ↓o_Divmod, ↓x_Bl, ↓x_Int, ↓x_Str, ↓x_Ref, ↓x_StrT, ↓w_For, ↓w_Lc, ↓w_iEnum, ↓w_iZipG, ↓w_iList, ↓w_iTup, ↓w_iStr, ↓w_iR1, ↓w_iR2, cx_K, wipe, tYes, gCons_c, gNil_c, S_cat, S_nil, len_S, List.length_append, dig2_len, toS_nat, lit_colon, lit_dash, lit_e, L2.start, List.length_cons, List.length_nil, List.map_cons, List.map_nil, List.replicate, List.cons_append, List.nil_append, List.append_nil, List.getElem?_cons_zero, List.getElem?_cons_succ, Option.some.injEq, exists_eq_left', exists_eq_left, exists_eq', V.int.injEq, V.bl.injEq, V.str.injEq, V.ref.injEq, List.cons.injEq, List.set_cons_zero, List.set_cons_succ, Nat.sub_self, Nat.add_sub_cancel, Nat.zero_add, Nat.reduceSub, Nat.reduceAdd, Bool.false_eq_true, reduceIte, exN_iff, dec1, and_true, true_and, isi_ii, isi_ib, isi_ss, Bool.not_true, Bool.not_false, tNever, tJs, rNewStrs, Int.natAbs_natCast]
      have hxl := hx.1
      refine ⟨line_of (by omega), by omega, ?_, hd, fun at_ H1 a0 a1 mv1 => ⟨by decide, by decide +kernel, mv1.1, fun way H2 w0 w1 mv2 => ⟨line_of (by decide), fun p hp => ?_⟩⟩⟩
      · have : ((x.length : Int) + 1).natAbs.log2 < 60 := (Nat.log2_lt (by omega)).mpr (by omega)
        omega
      · have mv := mv1.trans mv2
        refine ⟨mv.1.new hp, ne_dice mv.1 hp, _, upd_same, by simp, by decide, fun i v H3 hv mv3 => ?_⟩
        obtain ⟨sg, rfl, hsg⟩ := okV_of (n := 8) (by decide +kernel) hv
        have mvA := (mv.new hp).trans mv3
        obtain ⟨a, rfl⟩ := Int.eq_ofNat_of_zero_le a0
        have hcut : ∃ b : Nat, (a : Int) + (if decide (0 < way) = true then 1 else 0) = (b : Int) ∧ a ≤ b := by
          by_cases hw : 0 < way
          · exact ⟨a + 1, by rw [if_pos (decide_eq_true hw)]; omega, by omega⟩
          · exact ⟨a, by rw [if_neg (by intro z; exact hw (of_decide_eq_true z))]; omega, by omega⟩
        obtain ⟨b, hb, hab⟩ := hcut
        rw [hb]
        have e1 : tl (cutS x none (some (a : Int))) = (tl x).take a := tl_cut0 x a
        have e2 : tl (cutS x (some (b : Int)) none) = (tl x).drop b := tl_cut1 x b
        have hl1 : (cutS x none (some (a : Int))).length + (cutS x (some (b : Int)) none).length ≤ x.length := by
          rw [len_tl, e1, len_tl, e2, len_tl x, List.length_take, List.length_drop]
          omega
        have c1 : ∀ c ∈ tl (cutS x none (some (a : Int))), c < 128 := fun c hc => by
          rw [e1] at hc
          exact hx.2 c (List.mem_of_mem_take hc)
        have c2 : ∀ c ∈ tl (cutS x (some (b : Int)) none), c < 128 := fun c hc => by
          rw [e2] at hc
          exact hx.2 c (List.mem_of_mem_drop hc)
        have s1 : Short (cutS x none (some (a : Int))).length (cutS x none (some (a : Int))) := ⟨Nat.le_refl _, c1⟩
        have s2 : Short (cutS x (some (b : Int)) none).length (cutS x (some (b : Int)) none) := ⟨Nat.le_refl _, c2⟩
        have hsl := hsg.1
        refine ⟨line_of (by omega), ?_⟩
        by_cases hw : way = 1
        · rw [if_neg (by rw [decide_eq_true hw]; decide)]
          have s0 : Short 0 (S []) := ⟨Nat.le_refl _, fun c hc => by cases hc⟩
          have h3 := ((s1.cat s0).cat s2)
          refine ⟨line_of (by omega), line_of (by omega), ?_, q _ _ (h3.mono (by omega)) mvA⟩
          have := (s1.cat s0).1
          exact line_of (by omega)
        · rw [if_pos (by rw [decide_eq_false hw]; rfl)]
          walk_at "wp"
          have h3 := ((s1.cat hsg).cat s2)
          refine ⟨line_of (by omega), line_of (by omega), ?_, q _ _ (h3.mono (by omega)) mvA⟩
          have := (s1.cat hsg).1
          exact line_of (by omega)
    · exact h.elim
end
end K00
namespace K00
open PySem PySem.Spec PyProof.Rows L2 G
local macro_rules | `(tactic| walk_at "st") => `(tactic| simp only [L2.start, cx_K, List.length_cons, List.length_nil, List.map_cons, List.map_nil, List.replicate, List.cons_append, List.nil_append, Nat.sub_self, Nat.add_sub_cancel, Nat.reduceSub, Nat.reduceAdd, Nat.zero_add])
local macro_rules | `(tactic| walk_at "wp") => `(tactic| simp only [↓tV0, ↓gN0, ↓tV1, ↓gN1, ↓tV2, ↓gN2, ↓tV3, ↓gN3, ↓tV4, ↓gN4, ↓tV5, ↓gN5, ↓tV6, ↓gN6, ↓tV7, ↓gN7, ↓tV8, ↓gN8, ↓tV9, ↓gN9, ↓tV10, ↓gN10, ↓tV11, ↓gN11, ↓tV12, ↓gN12, ↓tV13, ↓gN13, ↓w_Ret, ↓w_RetN, ↓w_C, ↓w_Op, ↓w_Un, ↓w_UnI, ↓w_Asg, ↓w_Seq, ↓w_IfS, ↓w_Next, ↓w_Drop, ↓w_CB, ↓w_Call, ↓w_Nil, ↓w_Cons, ↓w_NoPart, ↓w_Part, ↓w_Sl, ↓w_Test, ↓w_And, ↓w_Or, ↓w_Not, ↓w_AndV, ↓w_OrV, ↓w_NotV, ↓w_If, ↓w_Chain, ↓w_TruG, ↓w_TruB, ↓w_TruI, ↓w_TruN, ↓w_Tup, ↓w_Lst, ↓w_Par, ↓w_Sub, ↓w_M1, ↓w_BM, ↓w_ReplC, ↓w_RaiseC, ↓w_Fmt02, ↓w_FmtG, ↓w_FmtS, ↓w_FmtI, ↓o_AddII, ↓o_AddSS, ↓o_AddRR, ↓o_SubII, ↓o_MulII, ↓o_MulSI, ↓o_ModII, ↓o_DivII, ↓o_PowII, ↓o_LtII, ↓o_LtSS, ↓o_LeII, ↓o_LeSS, ↓o_GtII, ↓o_GtSS, ↓o_GeII, ↓o_GeSS, ↓o_EqII, ↓o_EqSS, ↓o_EqBB, ↓o_EqRR, ↓o_NeII, ↓o_NeSS, ↓o_NeBB, ↓o_NeRR, ↓o_InR, ↓o_InS, ↓o_IxS, ↓o_IxR, ↓o_SlS, ↓o_SlR, ↓o_LenS, ↓o_LenR, ↓o_IntI, ↓o_IntB, ↓o_IntS, ↓o_Abs, ↓o_Max, ↓o_Min, ↓o_Str, ↓o_Divmod, ↓x_Bl, ↓x_Int, ↓x_Str, ↓x_Ref, ↓x_StrT, ↓w_For, ↓w_Lc, ↓w_iEnum, ↓w_iZipG, ↓w_iList, ↓w_iTup, ↓w_iStr, ↓w_iR1, ↓w_iR2, cx_K, wipe, tYes, gCons_c, gNil_c, S_cat, S_nil, len_S, List.length_append, dig2_len, toS_nat, lit_colon, lit_dash, lit_e, L2.start, List.length_cons, List.length_nil, List.map_cons, List.map_nil, List.replicate, List.cons_append, List.nil_append, List.append_nil, List.getElem?_cons_zero, List.getElem?_cons_succ, Option.some.injEq, exists_eq_left', exists_eq_left, exists_eq', V.int.injEq, V.bl.injEq, V.str.injEq, V.ref.injEq, List.cons.injEq, List.set_cons_zero, List.set_cons_succ, Nat.sub_self, Nat.add_sub_cancel, Nat.zero_add, Nat.reduceSub, Nat.reduceAdd, Bool.false_eq_true, reduceIte, exN_iff, dec1, and_true, true_and, isi_ii, isi_ib, isi_ss, Bool.not_true, Bool.not_false, tNever, tJs, rNewStrs, Int.natAbs_natCast])
section
variable {P : Program} {w : World} {K : PySem.W.Frag} {mg : Str → Option Value} {base : Heap} {C_ParseError : Addr}

theorem dp_told {K : PySem.W.Frag} {H : Hp} {a : Addr} {v : Sum Nat Nat} (h : H a = some (.tup (told v))) : ∃ s n, Dp K H (.ref a) (.tuple [.str s, .int n]) ∧ (match v with | .inl m => s = Str.ofString "spot" ∧ n = (m : Nat) | .inr m => s = Str.ofString "ticks" ∧ n = (m : Nat)) := by
  cases v with
  | inl m => exact ⟨_, _, .tup (SqT.of h) (.cons (.str _) (.cons (.int _) .nil)), rfl, rfl⟩
  | inr m => exact ⟨_, _, .tup (SqT.of h) (.cons (.str _) (.cons (.int _) .nil)), rfl, rfl⟩
theorem shaped_told {s : Str} {n : Int} (h : PyData.strOk s = true) : SeqAt.shaped (.tuple [.str s, .int n]) = true := by
  unfold SeqAt.shaped
  rw [Bool.and_eq_true]
  refine ⟨?_, decide_eq_true ?_⟩
  · simp only [PyData.canLay0, PyData.canLayAll0, h]
    rfl
  · simp only [PyData.depth, PyData.depthAll]
    decide
theorem ne_told {K : PySem.W.Frag} {H : Hp} {a b : Addr} {v : Sum Nat Nat} {Q : VK} (ha : H a = some (.tup (told v))) (hb : H b = some (.tup (told v))) (q : Q (.bl false) H) : rNeD K (.ref a) (.ref b) H Q := by
  have ok1 : PyData.strOk (Str.ofString "spot") = true := by decide +kernel
  have ok2 : PyData.strOk (Str.ofString "ticks") = true := by decide +kernel
  cases v with
  | inl m =>
    refine ⟨_, _, .tup (SqT.of ha) (.cons (.str _) (.cons (.int _) .nil)), .tup (SqT.of hb) (.cons (.str _) (.cons (.int _) .nil)), shaped_told ok1, shaped_told ok1, ?_⟩
    have e : PyData.eqv (.tuple [.str (Str.ofString "spot"), .int (m : Nat)]) (.tuple [.str (Str.ofString "spot"), .int (m : Nat)]) = true := by
      simp [PyData.eqv, PyData.eqvAll]
    rw [e]
    exact q
  | inr m =>
    refine ⟨_, _, .tup (SqT.of ha) (.cons (.str _) (.cons (.int _) .nil)), .tup (SqT.of hb) (.cons (.str _) (.cons (.int _) .nil)), shaped_told ok2, shaped_told ok2, ?_⟩
    have e : PyData.eqv (.tuple [.str (Str.ofString "ticks"), .int (m : Nat)]) (.tuple [.str (Str.ofString "ticks"), .int (m : Nat)]) = true := by
      simp [PyData.eqv, PyData.eqvAll]
    rw [e]
    exact q
theorem textOf_len {n : Nat} (h : n ≤ 1000000) : (textOf n).length ≤ 600 := by
  unfold textOf
  have hl := numL_len (n := n / 86400) (k := 2) (by omega) (by decide)
  by_cases h0 : n / 86400 = 0
  · rw [if_pos h0]
    simp only [List.length_append, dig2_len, List.length_cons, List.length_nil]
    omega
  · rw [if_neg h0]
    simp only [List.length_append, dig2_len, List.length_cons, List.length_nil]
    omega
def sp__law_right (K : PySem.W.Frag) : Sp := fun vs H Q _ => match vs with
  | [.ref d] => DiceAt H d ∧ ∀ H', Moved d H H' → Q (.bl true) H'
  | _ => False
theorem c__law_right {f : Addr} {fd : FuncData} (T : Txt K mg) (F : Fun K "_law_right" "_law_right" s__law_right f fd) (hm : mg "_law_right" = some (.ref f)) (C__law_pick : CallOk P w K mg base "_law_pick" 2 ["dice", "items"] (sp__law_pick K)) (C__law_roll : CallOk P w K mg base "_law_roll" 1 ["dice", "total"] sp__law_roll) (C__law_drawn : CallOk P w K mg base "_law_drawn" 3 ["dice"] (sp__law_drawn K)) (C_text_of_ticks : CallOk P w K mg base "text_of_ticks" 5 ["number"] sp_text_of_ticks) (C__law_written : CallOk P w K mg base "_law_written" 2 ["number"] sp__law_written) (C_ticks_of : CallOk P w K mg base "ticks_of" 6 ["text"] (sp_ticks_of C_ParseError)) (C__law_spoilt : CallOk P w K mg base "_law_spoilt" 3 ["dice", "text"] (sp__law_spoilt K)) (C__law_told : CallOk P w K mg base "_law_told" 7 ["text"] sp__law_told) (C__law_due : CallOk P w K mg base "_law_due" 3 ["text"] (sp__law_due K)) : CallOk P w K mg base "_law_right" 8 ["dice"] (sp__law_right K) := by
  refine ⟨f, fd, hm, F.kp, F.binds (ps := ["dice"]) (fun _ _ _ _ _ _ us hl => match us, hl with | [_], _ => rfl), F.okX sc__law_right (fun vs H Q E h => ?_) (fun cdv A outer s H vs Q E hr h => ⟨_, (pss_cons (ps_set (i := 1) sc__law_right.nd rfl (Or.inl rfl) (pe_lst (pa_cons (pe_c0 C__law_roll (hr.mono (by decide)) (pa_cons (pv 0) (pa_cons pe_int pa_nil))) (pa_cons (pe_c0 C__law_roll (hr.mono (by decide)) (pa_cons (pv 0) (pa_cons pe_int pa_nil))) (pa_cons (pe_c0 C__law_roll (hr.mono (by decide)) (pa_cons (pv 0) (pa_cons pe_int pa_nil))) (pa_cons pe_int (pa_cons pe_int (pa_cons pe_int (pa_cons pe_int pa_nil)))))))))
      (pss_cons (ps_set (i := 2) sc__law_right.nd rfl (Or.inl rfl) (pe_c0 C__law_pick (hr.mono (by decide)) (pa_cons (pv 0) (pa_cons (pv 1) pa_nil))))
      (pss_cons (ps_if (PW.pt (pw_or (pt_cmpR (op_neG hr.units) (pe_c0 C_text_of_ticks (hr.mono (by decide)) (pa_cons (pv 2) pa_nil)) (pe_c0 C__law_written (hr.mono (by decide)) (pa_cons (pv 2) pa_nil)) (nomark _)) (pw_or1 (pt_cmpR (op_neG hr.units) (pe_cc C_ticks_of (passes_call (takes_of rfl rfl rfl rfl) (fun _ _ _ _ h => h)) (hr.mono (by decide)) (pa_cons (pe_c0 C__law_written (hr.mono (by decide)) (pa_cons (pv 2) pa_nil)) pa_nil)) (pv 2) (nomark _))))) (pss_one (ps_ret pe_bl)) pss_nil)
      (pss_cons (ps_for (passes_of rfl) rfl (pi_range1 (by rfl) T.n_range (pa_cons pe_int pa_nil)) (pg_name (i := 3) sc__law_right.nd rfl (Or.inl rfl)) (pss_cons (ps_set (i := 4) sc__law_right.nd rfl (Or.inl rfl) (pe_c0 C__law_drawn (hr.mono (by decide)) (pa_cons (pv 0) pa_nil)))
      (pss_cons (ps_for (passes_of rfl) rfl (pi_range1 (by rfl) T.n_range (pa_cons (pe_callB (call_maxG rfl) (by rfl) T.n_max (by decide +kernel) (pa_cons pe_int (pa_cons (pe_op op_subG (pv 3) pe_int) pa_nil))) pa_nil)) (pg_name (i := 5) sc__law_right.nd rfl (Or.inl rfl)) (pss_one (ps_set (i := 4) sc__law_right.nd rfl (Or.inl rfl) (pe_c0 C__law_spoilt (hr.mono (by decide)) (pa_cons (pv 0) (pa_cons (pv 4) pa_nil))))))
      (pss_one (ps_if (pt_cmpR (op_neG hr.units) (pe_c0 C__law_told (hr.mono (by decide)) (pa_cons (pv 4) pa_nil)) (pe_c0 C__law_due (hr.mono (by decide)) (pa_cons (pv 4) pa_nil)) (nomark _)) (pss_one (ps_ret pe_bl)) pss_nil)))))
      (pss_one (ps_ret pe_bl)))))), ?_⟩)⟩
  · revert h
    unfold sp__law_right
    split <;> intro h <;> first | rfl | exact False.elim h
  · unfold sp__law_right at h
    split at h
    · walk_at "st"
      rename_i d
      obtain ⟨hd, q⟩ := h
      simp only [↓sp__law_roll, ↓sp__law_pick, ↓tV0, ↓gN0, ↓tV1, ↓gN1, ↓tV2, ↓gN2, ↓tV3, ↓gN3, ↓tV4, ↓gN4, ↓tV5, ↓gN5, ↓tV6, ↓gN6, ↓tV7, ↓gN7, ↓tV8, ↓gN8, ↓tV9, ↓gN9, ↓tV10, ↓gN10, ↓tV11, ↓gN11, ↓tV12, ↓gN12, ↓tV13, ↓gN13, ↓w_Ret, ↓w_RetN, ↓w_C, ↓w_Op, ↓w_Un, ↓w_UnI, ↓w_Asg, ↓w_Seq, ↓w_IfS, ↓w_Next, ↓w_Drop, ↓w_CB, ↓w_Call, ↓w_Nil, ↓w_Cons, ↓w_NoPart, ↓w_Part, ↓w_Sl, ↓w_Test, ↓w_And, ↓w_Or, ↓w_Not, ↓w_AndV, ↓w_OrV, ↓w_NotV, ↓w_If, ↓w_Chain, ↓w_TruG, ↓w_TruB, ↓w_TruI, ↓w_TruN, ↓w_Tup, ↓w_Lst, ↓w_Par, ↓w_Sub, ↓w_M1, ↓w_BM, ↓w_ReplC, ↓w_RaiseC, ↓w_Fmt02, ↓w_FmtG, ↓w_FmtS, ↓w_FmtI, ↓o_AddII, ↓o_AddSS, ↓o_AddRR, ↓o_SubII, ↓o_MulII, ↓o_MulSI, ↓o_ModII, ↓o_DivII, ↓o_PowII, ↓o_LtII, ↓o_LtSS, ↓o_LeII, ↓o_LeSS, ↓o_GtII, ↓o_GtSS, ↓o_GeII, ↓o_GeSS, ↓o_EqII, ↓o_EqSS, ↓o_EqBB, ↓o_EqRR, ↓o_NeII, ↓o_NeSS, ↓o_NeBB, ↓o_NeRR, ↓o_InR, ↓o_InS, ↓o_IxS, ↓o_IxR, ↓o_SlS, ↓o_SlR, ↓o_LenS, ↓o_LenR, ↓o_IntI, ↓o_IntB, ↓o_IntS, ↓o_Abs, ↓o_Max, ↓o_Min, ↓o_Str, ↓o_Divmod, ↓x_Bl, ↓x_Int, ↓x_Str, ↓x_Ref, ↓x_StrT, ↓w_For, ↓w_Lc, ↓w_iEnum, ↓w_iZipG, ↓w_iList, ↓w_iTup, ↓w_iStr, ↓w_iR1, ↓w_iR2, cx_K, wipe, tYes, gCons_c, gNil_c, S_cat, S_nil, len_S, List.length_append, dig2_len, toS_nat, lit_colon, lit_dash, lit_e, L2.start, List.length_cons, List.length_nil, List.map_cons, List.map_nil, List.replicate, List.cons_append, List.nil_append, List.append_nil, List.getElem?_cons_zero, List.getElem?_cons_succ, Option.some.injEq, exists_eq_left', exists_eq_left, exists_eq', V.int.injEq, V.bl.injEq, V.str.injEq, V.ref.injEq, List.cons.injEq, List.set_cons_zero, List.set_cons_succ, Nat.sub_self, Nat.add_sub_cancel, Nat.zero_add, Nat.reduceSub, Nat.reduceAdd, Bool.false_eq_true, reduceIte, exN_iff, dec1, and_true, true_and, isi_ii, isi_ib, isi_ss, Bool.not_true, Bool.not_false, tNever, tJs, rNewStrs, Int.natAbs_natCast]
      refine ⟨by decide, by decide +kernel, hd, fun r1 H1 a0 a1 m1 => ⟨by decide, by decide +kernel, m1.1, fun r2 H2 b0 b1 m2 => ⟨by decide, by decide +kernel, m2.1, fun r3 H3 c0 c1 m3 => ⟨line_of (by decide), fun p hp => ?_⟩⟩⟩⟩
      have mv := ((m1.trans m2).trans m3)
      have mv' := mv.new (o := HO.lst [V.int r1, V.int r2, V.int r3, V.int 1000000, V.int 86399, V.int 86400, V.int 0]) hp
      refine ⟨mv'.1, ne_dice mv.1 hp, _, upd_same, by simp, (show 7 < 1000 by decide), fun i v H4 hv m4 => ?_⟩
      have mv4 : Moved d H H4 := mv'.trans m4
      have hv2 : ∃ n : Nat, v = .int (n : Nat) ∧ n ≤ 1000000 := by
        have hm := List.mem_of_getElem? hv
        simp only [List.mem_cons, List.not_mem_nil, or_false] at hm
        rcases hm with e | e | e | e | e | e | e
        · exact ⟨r1.toNat, by rw [e]; congr 1; omega, by omega⟩
        · exact ⟨r2.toNat, by rw [e]; congr 1; omega, by omega⟩
        · exact ⟨r3.toNat, by rw [e]; congr 1; omega, by omega⟩
        · exact ⟨1000000, e, by decide⟩
        · exact ⟨86399, e, by decide⟩
        · exact ⟨86400, e, by decide⟩
        · exact ⟨0, e, by decide⟩
      obtain ⟨n, rfl, hn⟩ := hv2
      simp only [↓sp_text_of_ticks, ↓sp__law_written, ↓tV0, ↓gN0, ↓tV1, ↓gN1, ↓tV2, ↓gN2, ↓tV3, ↓gN3, ↓tV4, ↓gN4, ↓tV5, ↓gN5, ↓tV6, ↓gN6, ↓tV7, ↓gN7, ↓tV8, ↓gN8, ↓tV9, ↓gN9, ↓tV10, ↓gN10, ↓tV11, ↓gN11, ↓tV12, ↓gN12, ↓tV13, ↓gN13, ↓w_Ret, ↓w_RetN, ↓w_C, ↓w_Op, ↓w_Un, ↓w_UnI, ↓w_Asg, ↓w_Seq, ↓w_IfS, ↓w_Next, ↓w_Drop, ↓w_CB, ↓w_Call, ↓w_Nil, ↓w_Cons, ↓w_NoPart, ↓w_Part, ↓w_Sl, ↓w_Test, ↓w_And, ↓w_Or, ↓w_Not, ↓w_AndV, ↓w_OrV, ↓w_NotV, ↓w_If, ↓w_Chain, ↓w_TruG, ↓w_TruB, ↓w_TruI, ↓w_TruN, ↓w_Tup, ↓w_Lst, ↓w_Par, ↓w_Sub, ↓w_M1, ↓w_BM, ↓w_ReplC, ↓w_RaiseC, ↓w_Fmt02, ↓w_FmtG, ↓w_FmtS, ↓w_FmtI, ↓o_AddII, ↓o_AddSS, ↓o_AddRR, ↓o_SubII, ↓o_MulII, ↓o_MulSI, ↓o_ModII, ↓o_DivII, ↓o_PowII, ↓o_LtII, ↓o_LtSS, ↓o_LeII, ↓o_LeSS, ↓o_GtII, ↓o_GtSS, ↓o_GeII, ↓o_GeSS, ↓o_EqII, ↓o_EqSS, ↓o_EqBB, ↓o_EqRR, ↓o_NeII, ↓o_NeSS, ↓o_NeBB, ↓o_NeRR, ↓o_InR, ↓o_InS, ↓o_IxS, ↓o_IxR, ↓o_SlS, ↓o_SlR, ↓o_LenS, ↓o_LenR, ↓o_IntI, ↓o_IntB, ↓o_IntS, ↓o_Abs, ↓o_Max, ↓o_Min, ↓o_Str, ↓o_Divmod, ↓x_Bl, ↓x_Int, ↓x_Str, ↓x_Ref, ↓x_StrT, ↓w_For, ↓w_Lc, ↓w_iEnum, ↓w_iZipG, ↓w_iList, ↓w_iTup, ↓w_iStr, ↓w_iR1, ↓w_iR2, cx_K, wipe, tYes, gCons_c, gNil_c, S_cat, S_nil, len_S, List.length_append, dig2_len, toS_nat, lit_colon, lit_dash, lit_e, L2.start, List.length_cons, List.length_nil, List.map_cons, List.map_nil, List.replicate, List.cons_append, List.nil_append, List.append_nil, List.getElem?_cons_zero, List.getElem?_cons_succ, Option.some.injEq, exists_eq_left', exists_eq_left, exists_eq', V.int.injEq, V.bl.injEq, V.str.injEq, V.ref.injEq, List.cons.injEq, List.set_cons_zero, List.set_cons_succ, Nat.sub_self, Nat.add_sub_cancel, Nat.zero_add, Nat.reduceSub, Nat.reduceAdd, Bool.false_eq_true, reduceIte, exN_iff, dec1, and_true, true_and, isi_ii, isi_ib, isi_ss, Bool.not_true, Bool.not_false, tNever, tJs, rNewStrs, Int.natAbs_natCast]
      refine ⟨by omega, by omega, fun H5 s5 => ⟨by omega, by omega, ?_⟩⟩
      rw [if_neg (by decide)]
      simp only [↓sp_ticks_of, ↓sp__law_written, ↓tV0, ↓gN0, ↓tV1, ↓gN1, ↓tV2, ↓gN2, ↓tV3, ↓gN3, ↓tV4, ↓gN4, ↓tV5, ↓gN5, ↓tV6, ↓gN6, ↓tV7, ↓gN7, ↓tV8, ↓gN8, ↓tV9, ↓gN9, ↓tV10, ↓gN10, ↓tV11, ↓gN11, ↓tV12, ↓gN12, ↓tV13, ↓gN13, ↓w_Ret, ↓w_RetN, ↓w_C, ↓w_Op, ↓w_Un, ↓w_UnI, ↓w_Asg, ↓w_Seq, ↓w_IfS, ↓w_Next, ↓w_Drop, ↓w_CB, ↓w_Call, ↓w_Nil, ↓w_Cons, ↓w_NoPart, ↓w_Part, ↓w_Sl, ↓w_Test, ↓w_And, ↓w_Or, ↓w_Not, ↓w_AndV, ↓w_OrV, ↓w_NotV, ↓w_If, ↓w_Chain, ↓w_TruG, ↓w_TruB, ↓w_TruI, ↓w_TruN, ↓w_Tup, ↓w_Lst, ↓w_Par, ↓w_Sub, ↓w_M1, ↓w_BM, ↓w_ReplC, ↓w_RaiseC, ↓w_Fmt02, ↓w_FmtG, ↓w_FmtS, ↓w_FmtI, ↓o_AddII, ↓o_AddSS, ↓o_AddRR, ↓o_SubII, ↓o_MulII, ↓o_MulSI, ↓o_ModII, ↓o_DivII, ↓o_PowII, ↓o_LtII, ↓o_LtSS, ↓o_LeII, ↓o_LeSS, ↓o_GtII, ↓o_GtSS, ↓o_GeII, ↓o_GeSS, ↓o_EqII, ↓o_EqSS, ↓o_EqBB, ↓o_EqRR, ↓o_NeII, ↓o_NeSS, ↓o_NeBB, ↓o_NeRR, ↓o_InR, ↓o_InS, ↓o_IxS, ↓o_IxR, ↓o_SlS, ↓o_SlR, ↓o_LenS, ↓o_LenR, ↓o_IntI, ↓o_IntB, ↓o_IntS, ↓o_Abs, ↓o_Max, ↓o_Min, ↓o_Str, ↓o_Divmod, ↓x_Bl, ↓x_Int, ↓x_Str, ↓x_Ref, ↓x_StrT, ↓w_For, ↓w_Lc, ↓w_iEnum, ↓w_iZipG, ↓w_iList, ↓w_iTup, ↓w_iStr, ↓w_iR1, ↓w_iR2, cx_K, wipe, tYes, gCons_c, gNil_c, S_cat, S_nil, len_S, List.length_append, dig2_len, toS_nat, lit_colon, lit_dash, lit_e, L2.start, List.length_cons, List.length_nil, List.map_cons, List.map_nil, List.replicate, List.cons_append, List.nil_append, List.append_nil, List.getElem?_cons_zero, List.getElem?_cons_succ, Option.some.injEq, exists_eq_left', exists_eq_left, exists_eq', V.int.injEq, V.bl.injEq, V.str.injEq, V.ref.injEq, List.cons.injEq, List.set_cons_zero, List.set_cons_succ, Nat.sub_self, Nat.add_sub_cancel, Nat.zero_add, Nat.reduceSub, Nat.reduceAdd, Bool.false_eq_true, reduceIte, exN_iff, dec1, and_true, true_and, isi_ii, isi_ib, isi_ss, Bool.not_true, Bool.not_false, tNever, tJs, rNewStrs, Int.natAbs_natCast]
      refine ⟨by omega, by omega, ?_, ?_, ?_⟩
      · rw [Int.toNat_natCast]
        exact textOf_len hn
      · intro e he
        exfalso
        have := ticks_text hn
        have he2 : ticksR (textOf n) = .inl e := by
          have z := he
          rw [Int.toNat_natCast] at z
          exact z
        rw [this] at he2
        cases he2
      · intro v hv H6 s6
        have hv3 : ticksR (textOf n) = .inr v := by
          have z := hv
          rw [Int.toNat_natCast] at z
          exact z
        rw [ticks_text hn] at hv3
        cases hv3
        rw [if_neg (by rw [decide_eq_true rfl]; decide)]
        have mv6 : Moved d H H6 := (mv4.same s5).same s6
        refine ⟨by decide, by decide, Loop.by (walk_range (lo := 0) (n := 7)) (fun i σ H' => Moved d H H' ∧ ∃ s3 s4 s5 : Option V, σ = [some (V.ref d), some (V.ref p), some (V.int (n : Nat)), s3, s4, s5])
          ⟨mv6, _, _, _, rfl⟩ (fun _ _ _ _ _ => trivial) ?_ ?_⟩
        · rintro i2 y2 σ H7 H8 hi ⟨mv7, s3, s4, s5', rfl⟩ ⟨rfl, rfl⟩
          simp only [↓sp__law_drawn, ↓tV0, ↓gN0, ↓tV1, ↓gN1, ↓tV2, ↓gN2, ↓tV3, ↓gN3, ↓tV4, ↓gN4, ↓tV5, ↓gN5, ↓tV6, ↓gN6, ↓tV7, ↓gN7, ↓tV8, ↓gN8, ↓tV9, ↓gN9, ↓tV10, ↓gN10, ↓tV11, ↓gN11, ↓tV12, ↓gN12, ↓tV13, ↓gN13, ↓w_Ret, ↓w_RetN, ↓w_C, ↓w_Op, ↓w_Un, ↓w_UnI, ↓w_Asg, ↓w_Seq, ↓w_IfS, ↓w_Next, ↓w_Drop, ↓w_CB, ↓w_Call, ↓w_Nil, ↓w_Cons, ↓w_NoPart, ↓w_Part, ↓w_Sl, ↓w_Test, ↓w_And, ↓w_Or, ↓w_Not, ↓w_AndV, ↓w_OrV, ↓w_NotV, ↓w_If, ↓w_Chain, ↓w_TruG, ↓w_TruB, ↓w_TruI, ↓w_TruN, ↓w_Tup, ↓w_Lst, ↓w_Par, ↓w_Sub, ↓w_M1, ↓w_BM, ↓w_ReplC, ↓w_RaiseC, ↓w_Fmt02, ↓w_FmtG, ↓w_FmtS, ↓w_FmtI, ↓o_AddII, ↓o_AddSS, ↓o_AddRR, ↓o_SubII, ↓o_MulII, ↓o_MulSI, ↓o_ModII, ↓o_DivII, ↓o_PowII, ↓o_LtII, ↓o_LtSS, ↓o_LeII, ↓o_LeSS, ↓o_GtII, ↓o_GtSS, ↓o_GeII, ↓o_GeSS, ↓o_EqII, ↓o_EqSS, ↓o_EqBB, ↓o_EqRR, ↓o_NeII, ↓o_NeSS, ↓o_NeBB, ↓o_NeRR, ↓o_InR, ↓o_InS, ↓o_IxS, ↓o_IxR, ↓o_SlS, ↓o_SlR, ↓o_LenS, ↓o_LenR, ↓o_IntI, ↓o_IntB, ↓o_IntS, ↓o_Abs, ↓o_Max, ↓o_Min, ↓o_Str, ↓o_Divmod, ↓x_Bl, ↓x_Int, ↓x_Str, ↓x_Ref, ↓x_StrT, ↓w_For, ↓w_Lc, ↓w_iEnum, ↓w_iZipG, ↓w_iList, ↓w_iTup, ↓w_iStr, ↓w_iR1, ↓w_iR2, cx_K, wipe, tYes, gCons_c, gNil_c, S_cat, S_nil, len_S, List.length_append, dig2_len, toS_nat, lit_colon, lit_dash, lit_e, L2.start, List.length_cons, List.length_nil, List.map_cons, List.map_nil, List.replicate, List.cons_append, List.nil_append, List.append_nil, List.getElem?_cons_zero, List.getElem?_cons_succ, Option.some.injEq, exists_eq_left', exists_eq_left, exists_eq', V.int.injEq, V.bl.injEq, V.str.injEq, V.ref.injEq, List.cons.injEq, List.set_cons_zero, List.set_cons_succ, Nat.sub_self, Nat.add_sub_cancel, Nat.zero_add, Nat.reduceSub, Nat.reduceAdd, Bool.false_eq_true, reduceIte, exN_iff, dec1, and_true, true_and, isi_ii, isi_ib, isi_ss, Bool.not_true, Bool.not_false, tNever, tJs, rNewStrs, Int.natAbs_natCast]
          refine ⟨mv7.1, fun x H9 hx mv9 => ?_⟩
          have mvA := mv7.trans mv9
          have hmx : (if 0 + (i2 : Int) - 4 > 0 then 0 + (i2 : Int) - 4 else 0) = ((i2 - 4 : Nat) : Int) := by
            by_cases h4 : 4 < i2
            · rw [if_pos (by omega)]; omega
            · rw [if_neg (by omega)]; omega
          try walk_at "wp"
          rw [hmx, Int.toNat_natCast]
          refine ⟨by omega, by omega, Loop.by (walk_range (lo := 0) (n := i2 - 4)) (fun j σ H' => Moved d H H' ∧ ∃ (s5 : Option V) (y : Str), Short (40 + 8 * j) y ∧
            σ = [some (V.ref d), some (V.ref p), some (V.int (n : Nat)), some (V.int (0 + (i2 : Int))), some (V.str y), s5])
            ⟨mvA, _, x, hx, rfl⟩ (fun _ _ _ _ _ => trivial) ?_ ?_⟩
          · rintro j y3 σ HA HB hj ⟨mvB, s5'', y, hy, rfl⟩ ⟨rfl, rfl⟩
            simp only [↓sp__law_spoilt, ↓tV0, ↓gN0, ↓tV1, ↓gN1, ↓tV2, ↓gN2, ↓tV3, ↓gN3, ↓tV4, ↓gN4, ↓tV5, ↓gN5, ↓tV6, ↓gN6, ↓tV7, ↓gN7, ↓tV8, ↓gN8, ↓tV9, ↓gN9, ↓tV10, ↓gN10, ↓tV11, ↓gN11, ↓tV12, ↓gN12, ↓tV13, ↓gN13, ↓w_Ret, ↓w_RetN, ↓w_C, ↓w_Op, ↓w_Un, ↓w_UnI, ↓w_Asg, ↓w_Seq, ↓w_IfS, ↓w_Next, ↓w_Drop, ↓w_CB, ↓w_Call, ↓w_Nil, ↓w_Cons, ↓w_NoPart, ↓w_Part, ↓w_Sl, ↓w_Test, ↓w_And, ↓w_Or, ↓w_Not, ↓w_AndV, ↓w_OrV, ↓w_NotV, ↓w_If, ↓w_Chain, ↓w_TruG, ↓w_TruB, ↓w_TruI, ↓w_TruN, ↓w_Tup, ↓w_Lst, ↓w_Par, ↓w_Sub, ↓w_M1, ↓w_BM, ↓w_ReplC, ↓w_RaiseC, ↓w_Fmt02, ↓w_FmtG, ↓w_FmtS, ↓w_FmtI, ↓o_AddII, ↓o_AddSS, ↓o_AddRR, ↓o_SubII, ↓o_MulII, ↓o_MulSI, ↓o_ModII, ↓o_DivII, ↓o_PowII, ↓o_LtII, ↓o_LtSS, ↓o_LeII, ↓o_LeSS, ↓o_GtII, ↓o_GtSS, ↓o_GeII, ↓o_GeSS, ↓o_EqII, ↓o_EqSS, ↓o_EqBB, ↓o_EqRR, ↓o_NeII, ↓o_NeSS, ↓o_NeBB, ↓o_NeRR, ↓o_InR, ↓o_InS, ↓o_IxS, ↓o_IxR, ↓o_SlS, ↓o_SlR, ↓o_LenS, ↓o_LenR, ↓o_IntI, ↓o_IntB, ↓o_IntS, ↓o_Abs, ↓o_Max, ↓o_Min, ↓o_Str, ↓o_Divmod, ↓x_Bl, ↓x_Int, ↓x_Str, ↓x_Ref, ↓x_StrT, ↓w_For, ↓w_Lc, ↓w_iEnum, ↓w_iZipG, ↓w_iList, ↓w_iTup, ↓w_iStr, ↓w_iR1, ↓w_iR2, cx_K, wipe, tYes, gCons_c, gNil_c, S_cat, S_nil, len_S, List.length_append, dig2_len, toS_nat, lit_colon, lit_dash, lit_e, L2.start, List.length_cons, List.length_nil, List.map_cons, List.map_nil, List.replicate, List.cons_append, List.nil_append, List.append_nil, List.getElem?_cons_zero, List.getElem?_cons_succ, Option.some.injEq, exists_eq_left', exists_eq_left, exists_eq', V.int.injEq, V.bl.injEq, V.str.injEq, V.ref.injEq, List.cons.injEq, List.set_cons_zero, List.set_cons_succ, Nat.sub_self, Nat.add_sub_cancel, Nat.zero_add, Nat.reduceSub, Nat.reduceAdd, Bool.false_eq_true, reduceIte, exN_iff, dec1, and_true, true_and, isi_ii, isi_ib, isi_ss, Bool.not_true, Bool.not_false, tNever, tJs, rNewStrs, Int.natAbs_natCast]
            have hyl := hy.1
            refine ⟨mvB.1, hy.mono (by omega), fun z HC hz mvC => ?_⟩
            try walk_at "wp"
            exact ⟨mvB.trans mvC, _, z, hz.mono (by omega), rfl, rfl⟩
          · rintro σ HA ⟨mvB, s5'', y, hy, rfl⟩
            have hyl := hy.1
            simp only [↓sp__law_told, ↓sp__law_due, ↓tV0, ↓gN0, ↓tV1, ↓gN1, ↓tV2, ↓gN2, ↓tV3, ↓gN3, ↓tV4, ↓gN4, ↓tV5, ↓gN5, ↓tV6, ↓gN6, ↓tV7, ↓gN7, ↓tV8, ↓gN8, ↓tV9, ↓gN9, ↓tV10, ↓gN10, ↓tV11, ↓gN11, ↓tV12, ↓gN12, ↓tV13, ↓gN13, ↓w_Ret, ↓w_RetN, ↓w_C, ↓w_Op, ↓w_Un, ↓w_UnI, ↓w_Asg, ↓w_Seq, ↓w_IfS, ↓w_Next, ↓w_Drop, ↓w_CB, ↓w_Call, ↓w_Nil, ↓w_Cons, ↓w_NoPart, ↓w_Part, ↓w_Sl, ↓w_Test, ↓w_And, ↓w_Or, ↓w_Not, ↓w_AndV, ↓w_OrV, ↓w_NotV, ↓w_If, ↓w_Chain, ↓w_TruG, ↓w_TruB, ↓w_TruI, ↓w_TruN, ↓w_Tup, ↓w_Lst, ↓w_Par, ↓w_Sub, ↓w_M1, ↓w_BM, ↓w_ReplC, ↓w_RaiseC, ↓w_Fmt02, ↓w_FmtG, ↓w_FmtS, ↓w_FmtI, ↓o_AddII, ↓o_AddSS, ↓o_AddRR, ↓o_SubII, ↓o_MulII, ↓o_MulSI, ↓o_ModII, ↓o_DivII, ↓o_PowII, ↓o_LtII, ↓o_LtSS, ↓o_LeII, ↓o_LeSS, ↓o_GtII, ↓o_GtSS, ↓o_GeII, ↓o_GeSS, ↓o_EqII, ↓o_EqSS, ↓o_EqBB, ↓o_EqRR, ↓o_NeII, ↓o_NeSS, ↓o_NeBB, ↓o_NeRR, ↓o_InR, ↓o_InS, ↓o_IxS, ↓o_IxR, ↓o_SlS, ↓o_SlR, ↓o_LenS, ↓o_LenR, ↓o_IntI, ↓o_IntB, ↓o_IntS, ↓o_Abs, ↓o_Max, ↓o_Min, ↓o_Str, ↓o_Divmod, ↓x_Bl, ↓x_Int, ↓x_Str, ↓x_Ref, ↓x_StrT, ↓w_For, ↓w_Lc, ↓w_iEnum, ↓w_iZipG, ↓w_iList, ↓w_iTup, ↓w_iStr, ↓w_iR1, ↓w_iR2, cx_K, wipe, tYes, gCons_c, gNil_c, S_cat, S_nil, len_S, List.length_append, dig2_len, toS_nat, lit_colon, lit_dash, lit_e, L2.start, List.length_cons, List.length_nil, List.map_cons, List.map_nil, List.replicate, List.cons_append, List.nil_append, List.append_nil, List.getElem?_cons_zero, List.getElem?_cons_succ, Option.some.injEq, exists_eq_left', exists_eq_left, exists_eq', V.int.injEq, V.bl.injEq, V.str.injEq, V.ref.injEq, List.cons.injEq, List.set_cons_zero, List.set_cons_succ, Nat.sub_self, Nat.add_sub_cancel, Nat.zero_add, Nat.reduceSub, Nat.reduceAdd, Bool.false_eq_true, reduceIte, exN_iff, dec1, and_true, true_and, isi_ii, isi_ib, isi_ss, Bool.not_true, Bool.not_false, tNever, tJs, rNewStrs, Int.natAbs_natCast]
            refine ⟨by omega, fun pa HB sB hpa hpa1 => ⟨⟨by omega, hy.2⟩, fun pb HC sC hpb hpb1 => ?_⟩⟩
            refine ne_told (v := ticksR (tl y)) (sC _ _ hpa1) (by rw [ticks_due]; exact hpb1) ?_
            try walk_at "wp"
            exact ⟨(mvB.same sB).same sC, _, _, _, rfl, rfl, rfl⟩
        · rintro σ H7 ⟨mv7, s3, s4, s5', rfl⟩
          try walk_at "wp"
          exact q H7 mv7
    · exact h.elim
end
end K00
namespace K00
open PySem PySem.Spec PyProof.Rows L2 G
local macro_rules | `(tactic| walk_at "st") => `(tactic| simp only [L2.start, cx_K, List.length_cons, List.length_nil, List.map_cons, List.map_nil, List.replicate, List.cons_append, List.nil_append, Nat.sub_self, Nat.add_sub_cancel, Nat.reduceSub, Nat.reduceAdd, Nat.zero_add])
local macro_rules | `(tactic| walk_at "wp") => `(tactic| simp only [↓tV0, ↓gN0, ↓tV1, ↓gN1, ↓tV2, ↓gN2, ↓tV3, ↓gN3, ↓tV4, ↓gN4, ↓tV5, ↓gN5, ↓tV6, ↓gN6, ↓tV7, ↓gN7, ↓tV8, ↓gN8, ↓tV9, ↓gN9, ↓tV10, ↓gN10, ↓tV11, ↓gN11, ↓tV12, ↓gN12, ↓tV13, ↓gN13, ↓w_Ret, ↓w_RetN, ↓w_C, ↓w_Op, ↓w_Un, ↓w_UnI, ↓w_Asg, ↓w_Seq, ↓w_IfS, ↓w_Next, ↓w_Drop, ↓w_CB, ↓w_Call, ↓w_Nil, ↓w_Cons, ↓w_NoPart, ↓w_Part, ↓w_Sl, ↓w_Test, ↓w_And, ↓w_Or, ↓w_Not, ↓w_AndV, ↓w_OrV, ↓w_NotV, ↓w_If, ↓w_Chain, ↓w_TruG, ↓w_TruB, ↓w_TruI, ↓w_TruN, ↓w_Tup, ↓w_Lst, ↓w_Par, ↓w_Sub, ↓w_M1, ↓w_BM, ↓w_ReplC, ↓w_RaiseC, ↓w_Fmt02, ↓w_FmtG, ↓w_FmtS, ↓w_FmtI, ↓o_AddII, ↓o_AddSS, ↓o_AddRR, ↓o_SubII, ↓o_MulII, ↓o_MulSI, ↓o_ModII, ↓o_DivII, ↓o_PowII, ↓o_LtII, ↓o_LtSS, ↓o_LeII, ↓o_LeSS, ↓o_GtII, ↓o_GtSS, ↓o_GeII, ↓o_GeSS, ↓o_EqII, ↓o_EqSS, ↓o_EqBB, ↓o_EqRR, ↓o_NeII, ↓o_NeSS, ↓o_NeBB, ↓o_NeRR, ↓o_InR, ↓o_InS, ↓o_IxS, ↓o_IxR, ↓o_SlS, ↓o_SlR, ↓o_LenS, ↓o_LenR, ↓o_IntI, ↓o_IntB, ↓o_IntS, ↓o_Abs, ↓o_Max, ↓o_Min, ↓o_Str, ↓o_Divmod, ↓x_Bl, ↓x_Int, ↓x_Str, ↓x_Ref, ↓x_StrT, ↓w_For, ↓w_Lc, ↓w_iEnum, ↓w_iZipG, ↓w_iList, ↓w_iTup, ↓w_iStr, ↓w_iR1, ↓w_iR2, cx_K, wipe, tYes, gCons_c, gNil_c, S_cat, S_nil, len_S, List.length_append, dig2_len, toS_nat, lit_colon, lit_dash, lit_e, L2.start, List.length_cons, List.length_nil, List.map_cons, List.map_nil, List.replicate, List.cons_append, List.nil_append, List.append_nil, List.getElem?_cons_zero, List.getElem?_cons_succ, Option.some.injEq, exists_eq_left', exists_eq_left, exists_eq', V.int.injEq, V.bl.injEq, V.str.injEq, V.ref.injEq, List.cons.injEq, List.set_cons_zero, List.set_cons_succ, Nat.sub_self, Nat.add_sub_cancel, Nat.zero_add, Nat.reduceSub, Nat.reduceAdd, Bool.false_eq_true, reduceIte, exN_iff, dec1, and_true, true_and, isi_ii, isi_ib, isi_ss, Bool.not_true, Bool.not_false, tNever, tJs, rNewStrs, Int.natAbs_natCast])
section
variable {P : Program} {w : World} {K : PySem.W.Frag} {mg : Str → Option Value} {base : Heap} {C_ParseError : Addr}

theorem _root_.L2.SqL.mono {K : PySem.W.Frag} {H H' : Hp} {a : Addr} {xs : List V} (h : SqL K H a xs) (s : Same H H') : SqL K H' a xs := by
  rcases h with h | h
  · rcases h with h | ⟨o, h⟩
    · exact .inl (.inl (s _ _ h))
    · exact .inl (.inr ⟨o, s _ _ h⟩)
  · exact .inr h
theorem Same.moved {d : Addr} {H H1 H2 : Hp} (s : Same H H1) (hd : H d = none) (m : Moved d H1 H2) : Same H H2 := fun b o e => m.2 b o (ne_of_none e hd) (s b o e)
def dataOf (v : Sum Nat Nat) : PyData := match v with
  | .inl n => .tuple [.str (Str.ofString "spot"), .int (n : Nat)]
  | .inr n => .tuple [.str (Str.ofString "ticks"), .int (n : Nat)]
theorem dp_one {K : PySem.W.Frag} {H : Hp} {a : Addr} {v : Sum Nat Nat} (h : H a = some (.tup (told v))) : Dp K H (.ref a) (dataOf v) := by
  cases v with
  | inl m => exact .tup (SqT.of h) (.cons (.str _) (.cons (.int _) .nil))
  | inr m => exact .tup (SqT.of h) (.cons (.str _) (.cons (.int _) .nil))
theorem dp_list {K : PySem.W.Frag} {H : Hp} : ∀ (vs : List (Sum Nat Nat)) (rs : List V), rs.length = vs.length → (∀ (j : Nat) (v : Sum Nat Nat), vs[j]? = some v → ∃ p, rs[j]? = some (V.ref p) ∧ H p = some (.tup (told v))) → DpAll K H rs (vs.map dataOf)
  | [], [], _, _ => .nil
  | [], _ :: _, h, _ => by cases h
  | _ :: _, [], h, _ => by cases h
  | v :: vs, r :: rs, h, f => by
    obtain ⟨p, e, hp⟩ := f 0 v rfl
    cases e
    exact .cons (dp_one hp) (dp_list vs rs (by simpa using h) fun j w e => f (j + 1) w e)
theorem shaped_dues : ∀ vs : List (Sum Nat Nat), PyData.canLayAll0 (vs.map dataOf) = true ∧ PyData.depthAll (vs.map dataOf) ≤ 1
  | [] => ⟨by simp [PyData.canLayAll0], by simp [PyData.depthAll]⟩
  | v :: vs => by
    have ok1 : PyData.strOk (Str.ofString "spot") = true := by decide +kernel
    have ok2 : PyData.strOk (Str.ofString "ticks") = true := by decide +kernel
    have ih := shaped_dues vs
    cases v with
    | inl n =>
      refine ⟨?_, ?_⟩
      · simp only [List.map_cons, PyData.canLayAll0, dataOf, PyData.canLay0, ok1, ih.1, Bool.and_self]
      · simp only [List.map_cons, PyData.depthAll, dataOf, PyData.depth]
        omega
    | inr n =>
      refine ⟨?_, ?_⟩
      · simp only [List.map_cons, PyData.canLayAll0, dataOf, PyData.canLay0, ok2, ih.1, Bool.and_self]
      · simp only [List.map_cons, PyData.depthAll, dataOf, PyData.depth]
        omega
theorem eqv_dues : ∀ vs : List (Sum Nat Nat), PyData.eqvAll (vs.map dataOf) (vs.map dataOf) = true
  | [] => by simp [PyData.eqvAll]
  | v :: vs => by
    cases v <;> simp [PyData.eqvAll, PyData.eqv, dataOf, eqv_dues vs]
theorem eq_dues {K : PySem.W.Frag} {H : Hp} {a b : Addr} {vs : List (Sum Nat Nat)} {rs us : List V} {Q : VK} (ha : H a = some (.lst rs)) (hb : H b = some (.lst us)) (la : rs.length = vs.length) (lb : us.length = vs.length)
    (fa : ∀ (j : Nat) (v : Sum Nat Nat), vs[j]? = some v → ∃ p, rs[j]? = some (V.ref p) ∧ H p = some (.tup (told v))) (fb : ∀ (j : Nat) (v : Sum Nat Nat), vs[j]? = some v → ∃ p, us[j]? = some (V.ref p) ∧ H p = some (.tup (told v))) (q : Q (.bl true) H) : rEqD K (.ref a) (.ref b) H Q := by
  have sh : SeqAt.shaped (.list (vs.map dataOf)) = true := by
    have h := shaped_dues vs
    unfold SeqAt.shaped
    rw [Bool.and_eq_true]
    refine ⟨?_, decide_eq_true ?_⟩
    · rw [PyData.canLay0]; exact h.1
    · rw [PyData.depth]; omega
  refine ⟨_, _, .lst (SqL.of ha) (dp_list vs rs la fa), .lst (SqL.of hb) (dp_list vs us lb fb), sh, sh, ?_⟩
  rw [PyData.eqv, eqv_dues]
  exact q
def theTexts : List (List Nat) := [[57, 48], [49, 58, 48, 53], [50, 45, 51], [48, 45, 48, 48, 58, 48, 48, 58, 53, 57], [49, 58, 54, 48], [45, 49], [49, 45, 50, 52], [50, 48, 48, 48, 48], [49, 54, 54, 54, 54, 58, 52, 48], [49, 54, 54, 54, 54, 58, 52, 49], [], [49, 58, 58], [49, 50, 51, 52, 53, 54, 55, 56]]
def theDues : List (Sum Nat Nat) := [.inr 5400, .inr 65, .inr 183600, .inr 59, .inl 2, .inl 0, .inl 2, .inl 5, .inr 1000000, .inl 8, .inl 0, .inl 2, .inl 7]
theorem dues_are : theTexts.map ticksR = theDues := by decide +kernel
theorem short_texts : (theTexts.all fun t => decide (t.length ≤ 600)) = true := by decide +kernel
theorem lit_texts : ([Str.ofString "90", Str.ofString "1:05", Str.ofString "2-3", Str.ofString "0-00:00:59", Str.ofString "1:60", Str.ofString "-1", Str.ofString "1-24", Str.ofString "20000", Str.ofString "16666:40", Str.ofString "16666:41", S [], Str.ofString "1::", Str.ofString "12345678"] : List Str) = theTexts.map S := by decide +kernel
def sp_law (K : PySem.W.Frag) : Sp := fun vs H Q _ => match vs with
  | [.ref a] => ∃ ns : List Int, SqL K H a (ns.map V.int) ∧ ∀ H', Q (.bl true) H'
  | _ => False
theorem f_law {f : Addr} {fd : FuncData} (T : Txt K mg) (F : Fun K "law" "law" s_law f fd) (C__law_dice : CallOk P w K mg base "_law_dice" 1 ["script", "spot"] (sp__law_dice K)) (C__law_told : CallOk P w K mg base "_law_told" 7 ["text"] sp__law_told) (C__law_right : CallOk P w K mg base "_law_right" 8 ["dice"] (sp__law_right K)) : FnOk P w K mg base (L2.CX P w) 9 f fd ["script"] (sp_law K) := by
  refine F.okX sc_law (fun vs H Q E h => ?_) (fun cdv A outer s H vs Q E hr h => ⟨_, (pss_cons (ps_for (passes_of rfl) rfl (pi_range1 (by rfl) T.n_range (pa_cons (pe_callB (call_maxG rfl) (by rfl) T.n_max (by decide +kernel) (pa_cons pe_int (pa_cons (pe_callB (call_minG rfl) (by rfl) T.n_min (by decide +kernel) (pa_cons pe_int (pa_cons (pe_callB call_lenG (by rfl) T.n_len (by decide +kernel) (pa_cons (pv 0) pa_nil)) pa_nil))) pa_nil))) pa_nil)) (pg_name (i := 1) sc_law.nd rfl (Or.inl rfl)) (pss_cons (ps_set (i := 2) sc_law.nd rfl (Or.inl rfl) (pe_c0 C__law_dice (hr.mono (by decide)) (pa_cons (pv 0) (pa_cons (pv 1) pa_nil))))
      (pss_one (ps_if (PW.pt (pw_or (pt_not (pt_truG (pe_c0 C__law_right (hr.mono (by decide)) (pa_cons (pv 2) pa_nil)))) (pw_or1 (pt_not (pt_truG (pe_c0 C__law_right (hr.mono (by decide)) (pa_cons (pv 2) pa_nil))))))) (pss_one (ps_ret pe_bl)) pss_nil))))
      (pss_cons (ps_set (i := 3) sc_law.nd rfl (Or.inl rfl) (pe_tup (pa_cons pe_str (pa_cons pe_str (pa_cons pe_str (pa_cons pe_str (pa_cons pe_str (pa_cons pe_str (pa_cons pe_str (pa_cons pe_str (pa_cons pe_str (pa_cons pe_str (pa_cons pe_str (pa_cons pe_str (pa_cons pe_str pa_nil)))))))))))))))
      (pss_cons (ps_setLc (i := 4) (own := [("text", 5)]) (g := (gName 5)) rfl sc_law.nd rfl rfl (sw_true rfl rfl rfl (by decide +kernel)) (pi_tup (pv 3)) (blkOk_by (own := [("text", 5)]) (N := ["script", "spot", "dice", "texts", "told", "text", "due"]) (sc := defScope s_law) (by decide +kernel)) (fun _ _ _ _ _ => (pg_name (i := 5) sc_law.nd rfl (Or.inl rfl))) (fun _ _ _ _ _ => pts_nil) (fun _ _ _ _ _ => (pe_c0 C__law_told (hr.mono (by decide)) (pa_cons (pv 5) pa_nil))))
      (pss_cons (ps_set (i := 6) sc_law.nd rfl (Or.inl rfl) (pe_lst (pa_cons (pe_tup (pa_cons pe_str (pa_cons pe_int pa_nil))) (pa_cons (pe_tup (pa_cons pe_str (pa_cons pe_int pa_nil))) (pa_cons (pe_tup (pa_cons pe_str (pa_cons pe_int pa_nil))) (pa_cons (pe_tup (pa_cons pe_str (pa_cons pe_int pa_nil))) (pa_cons (pe_tup (pa_cons pe_str (pa_cons pe_int pa_nil))) (pa_cons (pe_tup (pa_cons pe_str (pa_cons pe_int pa_nil))) (pa_cons (pe_tup (pa_cons pe_str (pa_cons pe_int pa_nil))) pa_nil)))))))))
      (pss_cons (ps_set (i := 6) sc_law.nd rfl (Or.inl rfl) (pe_op op_addG (pv 6) (pe_lst (pa_cons (pe_tup (pa_cons pe_str (pa_cons pe_int pa_nil))) (pa_cons (pe_tup (pa_cons pe_str (pa_cons pe_int pa_nil))) (pa_cons (pe_tup (pa_cons pe_str (pa_cons pe_int pa_nil))) (pa_cons (pe_tup (pa_cons pe_str (pa_cons pe_int pa_nil))) (pa_cons (pe_tup (pa_cons pe_str (pa_cons pe_int pa_nil))) (pa_cons (pe_tup (pa_cons pe_str (pa_cons pe_int pa_nil))) pa_nil)))))))))
      (pss_one (ps_ret (pe_cmpR (op_eqG hr.units) (pv 4) (pv 6) (nomark _))))))))), ?_⟩)
  · revert h
    unfold sp_law
    split <;> intro h <;> first | rfl | exact False.elim h
  · unfold sp_law at h
    split at h
    · walk_at "st"
      rename_i a
      obtain ⟨ns, hs, q⟩ := h
      walk_at "wp"
      have hnum : ∀ n : Nat, ∃ k : Nat, k ≤ 3 ∧ (if (if (n : Int) < 3 then (n : Int) else 3) > 1 then (if (n : Int) < 3 then (n : Int) else 3) else 1) = (k : Int) := fun n => by
        by_cases h1 : (n : Int) < 3
        · rw [if_pos h1]
          by_cases h2 : (n : Int) > 1
          · rw [if_pos h2]; exact ⟨n, by omega, rfl⟩
          · rw [if_neg h2]; exact ⟨1, by omega, rfl⟩
        · rw [if_neg h1]
          exact ⟨3, by omega, rfl⟩
      obtain ⟨k, hk3, hk⟩ := hnum (ns.map V.int).length
      refine ⟨_, .inl hs, ?_⟩
      rw [hk, Int.toNat_natCast]
      refine ⟨by omega, by omega, Loop.by (walk_range (lo := 0) (n := k)) (fun i σ H' => Same H H' ∧ ∃ s1 s2 : Option V, σ = [some (V.ref a), s1, s2, none, none, none, none])
        ⟨Same.refl _, _, _, rfl⟩ (fun _ _ _ _ _ => trivial) ?_ ?_⟩
      · rintro i y σ H1 H2 hi ⟨sm, s1, s2, rfl⟩ ⟨rfl, rfl⟩
        simp only [↓sp__law_dice, ↓tV0, ↓gN0, ↓tV1, ↓gN1, ↓tV2, ↓gN2, ↓tV3, ↓gN3, ↓tV4, ↓gN4, ↓tV5, ↓gN5, ↓tV6, ↓gN6, ↓tV7, ↓gN7, ↓tV8, ↓gN8, ↓tV9, ↓gN9, ↓tV10, ↓gN10, ↓tV11, ↓gN11, ↓tV12, ↓gN12, ↓tV13, ↓gN13, ↓w_Ret, ↓w_RetN, ↓w_C, ↓w_Op, ↓w_Un, ↓w_UnI, ↓w_Asg, ↓w_Seq, ↓w_IfS, ↓w_Next, ↓w_Drop, ↓w_CB, ↓w_Call, ↓w_Nil, ↓w_Cons, ↓w_NoPart, ↓w_Part, ↓w_Sl, ↓w_Test, ↓w_And, ↓w_Or, ↓w_Not, ↓w_AndV, ↓w_OrV, ↓w_NotV, ↓w_If, ↓w_Chain, ↓w_TruG, ↓w_TruB, ↓w_TruI, ↓w_TruN, ↓w_Tup, ↓w_Lst, ↓w_Par, ↓w_Sub, ↓w_M1, ↓w_BM, ↓w_ReplC, ↓w_RaiseC, ↓w_Fmt02, ↓w_FmtG, ↓w_FmtS, ↓w_FmtI, ↓o_AddII, ↓o_AddSS, ↓o_AddRR, ↓o_SubII, ↓o_MulII, ↓o_MulSI, ↓o_ModII, ↓o_DivII, ↓o_PowII, ↓o_LtII, ↓o_LtSS, ↓o_LeII, ↓o_LeSS, ↓o_GtII, ↓o_GtSS, ↓o_GeII, ↓o_GeSS, ↓o_EqII, ↓o_EqSS, ↓o_EqBB, ↓o_EqRR, ↓o_NeII, ↓o_NeSS, ↓o_NeBB, ↓o_NeRR, ↓o_InR, ↓o_InS, ↓o_IxS, ↓o_IxR, ↓o_SlS, ↓o_SlR, ↓o_LenS, ↓o_LenR, ↓o_IntI, ↓o_IntB, ↓o_IntS, ↓o_Abs, ↓o_Max, ↓o_Min, ↓o_Str, ↓o_Divmod, ↓x_Bl, ↓x_Int, ↓x_Str, ↓x_Ref, ↓x_StrT, ↓w_For, ↓w_Lc, ↓w_iEnum, ↓w_iZipG, ↓w_iList, ↓w_iTup, ↓w_iStr, ↓w_iR1, ↓w_iR2, cx_K, wipe, tYes, gCons_c, gNil_c, S_cat, S_nil, len_S, List.length_append, dig2_len, toS_nat, lit_colon, lit_dash, lit_e, L2.start, List.length_cons, List.length_nil, List.map_cons, List.map_nil, List.replicate, List.cons_append, List.nil_append, List.append_nil, List.getElem?_cons_zero, List.getElem?_cons_succ, Option.some.injEq, exists_eq_left', exists_eq_left, exists_eq', V.int.injEq, V.bl.injEq, V.str.injEq, V.ref.injEq, List.cons.injEq, List.set_cons_zero, List.set_cons_succ, Nat.sub_self, Nat.add_sub_cancel, Nat.zero_add, Nat.reduceSub, Nat.reduceAdd, Bool.false_eq_true, reduceIte, exN_iff, dec1, and_true, true_and, isi_ii, isi_ib, isi_ss, Bool.not_true, Bool.not_false, tNever, tJs, rNewStrs, Int.natAbs_natCast]
        refine ⟨by omega, by omega, ns, hs.mono sm, fun p H3 hp hd s3 => ?_⟩
        simp only [↓sp__law_right, ↓tV0, ↓gN0, ↓tV1, ↓gN1, ↓tV2, ↓gN2, ↓tV3, ↓gN3, ↓tV4, ↓gN4, ↓tV5, ↓gN5, ↓tV6, ↓gN6, ↓tV7, ↓gN7, ↓tV8, ↓gN8, ↓tV9, ↓gN9, ↓tV10, ↓gN10, ↓tV11, ↓gN11, ↓tV12, ↓gN12, ↓tV13, ↓gN13, ↓w_Ret, ↓w_RetN, ↓w_C, ↓w_Op, ↓w_Un, ↓w_UnI, ↓w_Asg, ↓w_Seq, ↓w_IfS, ↓w_Next, ↓w_Drop, ↓w_CB, ↓w_Call, ↓w_Nil, ↓w_Cons, ↓w_NoPart, ↓w_Part, ↓w_Sl, ↓w_Test, ↓w_And, ↓w_Or, ↓w_Not, ↓w_AndV, ↓w_OrV, ↓w_NotV, ↓w_If, ↓w_Chain, ↓w_TruG, ↓w_TruB, ↓w_TruI, ↓w_TruN, ↓w_Tup, ↓w_Lst, ↓w_Par, ↓w_Sub, ↓w_M1, ↓w_BM, ↓w_ReplC, ↓w_RaiseC, ↓w_Fmt02, ↓w_FmtG, ↓w_FmtS, ↓w_FmtI, ↓o_AddII, ↓o_AddSS, ↓o_AddRR, ↓o_SubII, ↓o_MulII, ↓o_MulSI, ↓o_ModII, ↓o_DivII, ↓o_PowII, ↓o_LtII, ↓o_LtSS, ↓o_LeII, ↓o_LeSS, ↓o_GtII, ↓o_GtSS, ↓o_GeII, ↓o_GeSS, ↓o_EqII, ↓o_EqSS, ↓o_EqBB, ↓o_EqRR, ↓o_NeII, ↓o_NeSS, ↓o_NeBB, ↓o_NeRR, ↓o_InR, ↓o_InS, ↓o_IxS, ↓o_IxR, ↓o_SlS, ↓o_SlR, ↓o_LenS, ↓o_LenR, ↓o_IntI, ↓o_IntB, ↓o_IntS, ↓o_Abs, ↓o_Max, ↓o_Min, ↓o_Str, ↓o_Divmod, ↓x_Bl, ↓x_Int, ↓x_Str, ↓x_Ref, ↓x_StrT, ↓w_For, ↓w_Lc, ↓w_iEnum, ↓w_iZipG, ↓w_iList, ↓w_iTup, ↓w_iStr, ↓w_iR1, ↓w_iR2, cx_K, wipe, tYes, gCons_c, gNil_c, S_cat, S_nil, len_S, List.length_append, dig2_len, toS_nat, lit_colon, lit_dash, lit_e, L2.start, List.length_cons, List.length_nil, List.map_cons, List.map_nil, List.replicate, List.cons_append, List.nil_append, List.append_nil, List.getElem?_cons_zero, List.getElem?_cons_succ, Option.some.injEq, exists_eq_left', exists_eq_left, exists_eq', V.int.injEq, V.bl.injEq, V.str.injEq, V.ref.injEq, List.cons.injEq, List.set_cons_zero, List.set_cons_succ, Nat.sub_self, Nat.add_sub_cancel, Nat.zero_add, Nat.reduceSub, Nat.reduceAdd, Bool.false_eq_true, reduceIte, exN_iff, dec1, and_true, true_and, isi_ii, isi_ib, isi_ss, Bool.not_true, Bool.not_false, tNever, tJs, rNewStrs, Int.natAbs_natCast]
        refine ⟨hd, fun H4 m4 => ?_⟩
        refine ⟨m4.1, fun H5 m5 => ?_⟩
        exact ⟨Same.moved (sm.trans s3) (sm.free hp) (m4.trans m5), _, _, rfl, rfl⟩
      · rintro σ H1 ⟨sm, s1, s2, rfl⟩
        walk_at "wp"
        refine ⟨line_of (by decide), fun pt hpt => ?_⟩
        have htx : ([V.str (Str.ofString "90"), V.str (Str.ofString "1:05"), V.str (Str.ofString "2-3"), V.str (Str.ofString "0-00:00:59"), V.str (Str.ofString "1:60"), V.str (Str.ofString "-1"), V.str (Str.ofString "1-24"), V.str (Str.ofString "20000"),
            V.str (Str.ofString "16666:40"), V.str (Str.ofString "16666:41"), V.str (S []), V.str (Str.ofString "1::"), V.str (Str.ofString "12345678")] : List V) = (theTexts.map S).map V.str := by
          rw [← lit_texts]
          rfl
        rw [htx]
        have sm0 : Same H1 (upd H1 pt (HO.tup ((theTexts.map S).map V.str))) := sameI hpt
        have et : upd H1 pt (HO.tup ((theTexts.map S).map V.str)) pt = some (HO.tup ((theTexts.map S).map V.str)) := upd_same
        generalize upd H1 pt (HO.tup ((theTexts.map S).map V.str)) = G at sm0 et
        refine ⟨⟨_, SqT.of et⟩, fun D hD => ?_⟩
        have hptD : pt ≠ D := ne_of_none et hD
        refine LoopC.by (walk_tup (xs := (theTexts.map S).map V.str)) (fun i H' => H' pt = some (HO.tup ((theTexts.map S).map V.str)) ∧ ∃ rs : List V, H' D = some (.lst rs) ∧ rs.length = i ∧
          ∀ (j : Nat) (t : List Nat), j < i → theTexts[j]? = some t → ∃ p, rs[j]? = some (V.ref p) ∧ H' p = some (.tup (told (ticksR t))))
          ⟨(by rw [upd_ne hptD]; exact et), [], upd_same, rfl, fun j t h => absurd h (Nat.not_lt_zero _)⟩ (fun i H' _ h => SqT.of h.1) ?_ ?_
        · rintro i y H2 H3 hi ⟨ept, rs, eD, hlen, hrs⟩ ⟨rfl, ey⟩
          rw [List.length_map, List.length_map] at hi
          have hti : theTexts[i]? = some theTexts[i] := List.getElem?_eq_getElem hi
          have ey2 : y = V.str (S theTexts[i]) := by
            rw [List.getElem?_map, List.getElem?_map, hti] at ey
            exact (Option.some.inj ey).symm
          subst ey2
          have hsh : theTexts[i].length ≤ 600 := of_decide_eq_true (List.all_eq_true.mp short_texts _ (List.getElem_mem hi))
          simp only [↓sp__law_told, ↓tV0, ↓gN0, ↓tV1, ↓gN1, ↓tV2, ↓gN2, ↓tV3, ↓gN3, ↓tV4, ↓gN4, ↓tV5, ↓gN5, ↓tV6, ↓gN6, ↓tV7, ↓gN7, ↓tV8, ↓gN8, ↓tV9, ↓gN9, ↓tV10, ↓gN10, ↓tV11, ↓gN11, ↓tV12, ↓gN12, ↓tV13, ↓gN13, ↓w_Ret, ↓w_RetN, ↓w_C, ↓w_Op, ↓w_Un, ↓w_UnI, ↓w_Asg, ↓w_Seq, ↓w_IfS, ↓w_Next, ↓w_Drop, ↓w_CB, ↓w_Call, ↓w_Nil, ↓w_Cons, ↓w_NoPart, ↓w_Part, ↓w_Sl, ↓w_Test, ↓w_And, ↓w_Or, ↓w_Not, ↓w_AndV, ↓w_OrV, ↓w_NotV, ↓w_If, ↓w_Chain, ↓w_TruG, ↓w_TruB, ↓w_TruI, ↓w_TruN, ↓w_Tup, ↓w_Lst, ↓w_Par, ↓w_Sub, ↓w_M1, ↓w_BM, ↓w_ReplC, ↓w_RaiseC, ↓w_Fmt02, ↓w_FmtG, ↓w_FmtS, ↓w_FmtI, ↓o_AddII, ↓o_AddSS, ↓o_AddRR, ↓o_SubII, ↓o_MulII, ↓o_MulSI, ↓o_ModII, ↓o_DivII, ↓o_PowII, ↓o_LtII, ↓o_LtSS, ↓o_LeII, ↓o_LeSS, ↓o_GtII, ↓o_GtSS, ↓o_GeII, ↓o_GeSS, ↓o_EqII, ↓o_EqSS, ↓o_EqBB, ↓o_EqRR, ↓o_NeII, ↓o_NeSS, ↓o_NeBB, ↓o_NeRR, ↓o_InR, ↓o_InS, ↓o_IxS, ↓o_IxR, ↓o_SlS, ↓o_SlR, ↓o_LenS, ↓o_LenR, ↓o_IntI, ↓o_IntB, ↓o_IntS, ↓o_Abs, ↓o_Max, ↓o_Min, ↓o_Str, ↓o_Divmod, ↓x_Bl, ↓x_Int, ↓x_Str, ↓x_Ref, ↓x_StrT, ↓w_For, ↓w_Lc, ↓w_iEnum, ↓w_iZipG, ↓w_iList, ↓w_iTup, ↓w_iStr, ↓w_iR1, ↓w_iR2, cx_K, wipe, tYes, gCons_c, gNil_c, S_cat, S_nil, len_S, List.length_append, dig2_len, toS_nat, lit_colon, lit_dash, lit_e, L2.start, List.length_cons, List.length_nil, List.map_cons, List.map_nil, List.replicate, List.cons_append, List.nil_append, List.append_nil, List.getElem?_cons_zero, List.getElem?_cons_succ, Option.some.injEq, exists_eq_left', exists_eq_left, exists_eq', V.int.injEq, V.bl.injEq, V.str.injEq, V.ref.injEq, List.cons.injEq, List.set_cons_zero, List.set_cons_succ, Nat.sub_self, Nat.add_sub_cancel, Nat.zero_add, Nat.reduceSub, Nat.reduceAdd, Bool.false_eq_true, reduceIte, exN_iff, dec1, and_true, true_and, isi_ii, isi_ib, isi_ss, Bool.not_true, Bool.not_false, tNever, tJs, rNewStrs, Int.natAbs_natCast]
          refine ⟨hsh, fun p H4 s4 hp ep => ?_⟩
          have hDp : D ≠ p := ne_of_none eD hp
          refine ⟨rs, s4 _ _ eD, ?_, (by rw [upd_ne hptD]; exact s4 _ _ ept), rs ++ [V.ref p], upd_same, (by rw [List.length_append, hlen]; rfl), fun j t hj ht => ?_⟩
          · rw [hlen]
            exact Nat.lt_trans hi (by decide)
          · by_cases hji : j < i
            · obtain ⟨p2, e1, e2⟩ := hrs j t hji ht
              refine ⟨p2, (by rw [List.getElem?_append_left (by omega)]; exact e1), ?_⟩
              have : p2 ≠ D := ne_of e2 eD (by intro z; cases z)
              rw [upd_ne this]
              exact s4 _ _ e2
            · have e : j = i := by omega
              subst e
              have e2 : t = theTexts[j] := Option.some.inj (ht.symm.trans hti)
              subst e2
              refine ⟨p, (by rw [List.getElem?_append_right (by omega), hlen, Nat.sub_self]; rfl), ?_⟩
              rw [upd_ne (Ne.symm hDp)]
              exact ep
        · rintro G0 ⟨ept, rs, eD, hlen, hrs⟩
          rw [List.length_map, List.length_map] at hlen hrs
          refine ⟨by decide, fun p0 h0 => ?_⟩
          have e0 : upd G0 p0 (HO.tup [V.str (Str.ofString "ticks"), V.int 5400]) p0 = some (HO.tup [V.str (Str.ofString "ticks"), V.int 5400]) := upd_same
          have s1 : Same G0 (upd G0 p0 (HO.tup [V.str (Str.ofString "ticks"), V.int 5400])) := sameI h0
          generalize upd G0 p0 (HO.tup [V.str (Str.ofString "ticks"), V.int 5400]) = G1 at e0 s1
          refine ⟨by decide, fun p1 h1 => ?_⟩
          have e1 : upd G1 p1 (HO.tup [V.str (Str.ofString "ticks"), V.int 65]) p1 = some (HO.tup [V.str (Str.ofString "ticks"), V.int 65]) := upd_same
          have s2 : Same G1 (upd G1 p1 (HO.tup [V.str (Str.ofString "ticks"), V.int 65])) := sameI h1
          generalize upd G1 p1 (HO.tup [V.str (Str.ofString "ticks"), V.int 65]) = G2 at e1 s2
          refine ⟨by decide, fun p2 h2 => ?_⟩
          have e2 : upd G2 p2 (HO.tup [V.str (Str.ofString "ticks"), V.int 183600]) p2 = some (HO.tup [V.str (Str.ofString "ticks"), V.int 183600]) := upd_same
          have s3 : Same G2 (upd G2 p2 (HO.tup [V.str (Str.ofString "ticks"), V.int 183600])) := sameI h2
          generalize upd G2 p2 (HO.tup [V.str (Str.ofString "ticks"), V.int 183600]) = G3 at e2 s3
          refine ⟨by decide, fun p3 h3 => ?_⟩
          have e3 : upd G3 p3 (HO.tup [V.str (Str.ofString "ticks"), V.int 59]) p3 = some (HO.tup [V.str (Str.ofString "ticks"), V.int 59]) := upd_same
          have s4 : Same G3 (upd G3 p3 (HO.tup [V.str (Str.ofString "ticks"), V.int 59])) := sameI h3
          generalize upd G3 p3 (HO.tup [V.str (Str.ofString "ticks"), V.int 59]) = G4 at e3 s4
          refine ⟨by decide, fun p4 h4 => ?_⟩
          have e4 : upd G4 p4 (HO.tup [V.str (Str.ofString "spot"), V.int 2]) p4 = some (HO.tup [V.str (Str.ofString "spot"), V.int 2]) := upd_same
          have s5 : Same G4 (upd G4 p4 (HO.tup [V.str (Str.ofString "spot"), V.int 2])) := sameI h4
          generalize upd G4 p4 (HO.tup [V.str (Str.ofString "spot"), V.int 2]) = G5 at e4 s5
          refine ⟨by decide, fun p5 h5 => ?_⟩
          have e5 : upd G5 p5 (HO.tup [V.str (Str.ofString "spot"), V.int 0]) p5 = some (HO.tup [V.str (Str.ofString "spot"), V.int 0]) := upd_same
          have s6 : Same G5 (upd G5 p5 (HO.tup [V.str (Str.ofString "spot"), V.int 0])) := sameI h5
          generalize upd G5 p5 (HO.tup [V.str (Str.ofString "spot"), V.int 0]) = G6 at e5 s6
          refine ⟨by decide, fun p6 h6 => ?_⟩
          have e6 : upd G6 p6 (HO.tup [V.str (Str.ofString "spot"), V.int 2]) p6 = some (HO.tup [V.str (Str.ofString "spot"), V.int 2]) := upd_same
          have s7 : Same G6 (upd G6 p6 (HO.tup [V.str (Str.ofString "spot"), V.int 2])) := sameI h6
          generalize upd G6 p6 (HO.tup [V.str (Str.ofString "spot"), V.int 2]) = G7 at e6 s7
          refine ⟨by decide, fun lA hlA => ?_⟩
          have eA : upd G7 lA (HO.lst [V.ref p0, V.ref p1, V.ref p2, V.ref p3, V.ref p4, V.ref p5, V.ref p6]) lA = some (HO.lst [V.ref p0, V.ref p1, V.ref p2, V.ref p3, V.ref p4, V.ref p5, V.ref p6]) := upd_same
          have s8 : Same G7 (upd G7 lA (HO.lst [V.ref p0, V.ref p1, V.ref p2, V.ref p3, V.ref p4, V.ref p5, V.ref p6])) := sameI hlA
          generalize upd G7 lA (HO.lst [V.ref p0, V.ref p1, V.ref p2, V.ref p3, V.ref p4, V.ref p5, V.ref p6]) = G8 at eA s8
          refine ⟨by decide, fun p7 h7 => ?_⟩
          have e7 : upd G8 p7 (HO.tup [V.str (Str.ofString "spot"), V.int 5]) p7 = some (HO.tup [V.str (Str.ofString "spot"), V.int 5]) := upd_same
          have s9 : Same G8 (upd G8 p7 (HO.tup [V.str (Str.ofString "spot"), V.int 5])) := sameI h7
          generalize upd G8 p7 (HO.tup [V.str (Str.ofString "spot"), V.int 5]) = G9 at e7 s9
          refine ⟨by decide, fun p8 h8 => ?_⟩
          have e8 : upd G9 p8 (HO.tup [V.str (Str.ofString "ticks"), V.int 1000000]) p8 = some (HO.tup [V.str (Str.ofString "ticks"), V.int 1000000]) := upd_same
          have s10 : Same G9 (upd G9 p8 (HO.tup [V.str (Str.ofString "ticks"), V.int 1000000])) := sameI h8
          generalize upd G9 p8 (HO.tup [V.str (Str.ofString "ticks"), V.int 1000000]) = G10 at e8 s10
          refine ⟨by decide, fun p9 h9 => ?_⟩
          have e9 : upd G10 p9 (HO.tup [V.str (Str.ofString "spot"), V.int 8]) p9 = some (HO.tup [V.str (Str.ofString "spot"), V.int 8]) := upd_same
          have s11 : Same G10 (upd G10 p9 (HO.tup [V.str (Str.ofString "spot"), V.int 8])) := sameI h9
          generalize upd G10 p9 (HO.tup [V.str (Str.ofString "spot"), V.int 8]) = G11 at e9 s11
          refine ⟨by decide, fun p10 h10 => ?_⟩
          have e10 : upd G11 p10 (HO.tup [V.str (Str.ofString "spot"), V.int 0]) p10 = some (HO.tup [V.str (Str.ofString "spot"), V.int 0]) := upd_same
          have s12 : Same G11 (upd G11 p10 (HO.tup [V.str (Str.ofString "spot"), V.int 0])) := sameI h10
          generalize upd G11 p10 (HO.tup [V.str (Str.ofString "spot"), V.int 0]) = G12 at e10 s12
          refine ⟨by decide, fun p11 h11 => ?_⟩
          have e11 : upd G12 p11 (HO.tup [V.str (Str.ofString "spot"), V.int 2]) p11 = some (HO.tup [V.str (Str.ofString "spot"), V.int 2]) := upd_same
          have s13 : Same G12 (upd G12 p11 (HO.tup [V.str (Str.ofString "spot"), V.int 2])) := sameI h11
          generalize upd G12 p11 (HO.tup [V.str (Str.ofString "spot"), V.int 2]) = G13 at e11 s13
          refine ⟨by decide, fun p12 h12 => ?_⟩
          have e12 : upd G13 p12 (HO.tup [V.str (Str.ofString "spot"), V.int 7]) p12 = some (HO.tup [V.str (Str.ofString "spot"), V.int 7]) := upd_same
          have s14 : Same G13 (upd G13 p12 (HO.tup [V.str (Str.ofString "spot"), V.int 7])) := sameI h12
          generalize upd G13 p12 (HO.tup [V.str (Str.ofString "spot"), V.int 7]) = G14 at e12 s14
          refine ⟨by decide, fun lB hlB => ?_⟩
          have eB : upd G14 lB (HO.lst [V.ref p7, V.ref p8, V.ref p9, V.ref p10, V.ref p11, V.ref p12]) lB = some (HO.lst [V.ref p7, V.ref p8, V.ref p9, V.ref p10, V.ref p11, V.ref p12]) := upd_same
          have s15 : Same G14 (upd G14 lB (HO.lst [V.ref p7, V.ref p8, V.ref p9, V.ref p10, V.ref p11, V.ref p12])) := sameI hlB
          generalize upd G14 lB (HO.lst [V.ref p7, V.ref p8, V.ref p9, V.ref p10, V.ref p11, V.ref p12]) = G15 at eB s15
          have t15 : Same G15 G15 := Same.refl _
          have t14 : Same G14 G15 := s15.trans t15
          have t13 : Same G13 G15 := s14.trans t14
          have t12 : Same G12 G15 := s13.trans t13
          have t11 : Same G11 G15 := s12.trans t12
          have t10 : Same G10 G15 := s11.trans t11
          have t9 : Same G9 G15 := s10.trans t10
          have t8 : Same G8 G15 := s9.trans t9
          have t7 : Same G7 G15 := s8.trans t8
          have t6 : Same G6 G15 := s7.trans t7
          have t5 : Same G5 G15 := s6.trans t6
          have t4 : Same G4 G15 := s5.trans t5
          have t3 : Same G3 G15 := s4.trans t4
          have t2 : Same G2 G15 := s3.trans t3
          have t1 : Same G1 G15 := s2.trans t2
          have t0 : Same G0 G15 := s1.trans t1
          refine .inl ⟨_, _, t8 _ _ eA, eB, line_of (show 7 + 6 ≤ 100000 by decide), fun r hr => ?_⟩
          have sF : Same G15 (upd G15 r (HO.lst ([V.ref p0, V.ref p1, V.ref p2, V.ref p3, V.ref p4, V.ref p5, V.ref p6] ++ [V.ref p7, V.ref p8, V.ref p9, V.ref p10, V.ref p11, V.ref p12]))) := sameI hr
          refine eq_dues (vs := theDues) (sF _ _ (t0 _ _ eD)) upd_same (hlen.trans rfl) rfl (fun j v hv => ?_) (fun j v hv => ?_) (q _)
          · rw [← dues_are, List.getElem?_map] at hv
            cases ht : theTexts[j]? with
            | none => rw [ht] at hv; cases hv
            | some t =>
              rw [ht] at hv
              have ev : ticksR t = v := Option.some.inj hv
              subst ev
              obtain ⟨p, e1, e2⟩ := hrs j t (List.getElem?_eq_some_iff.mp ht).1 ht
              exact ⟨p, e1, sF _ _ (t0 _ _ e2)⟩
          · have hj : j < 13 := (List.getElem?_eq_some_iff.mp hv).1
            match j, hj, hv with
            | 0, _, hv =>
              have e : some (.inr 5400 : Sum Nat Nat) = some v := hv
              cases e
              exact ⟨p0, rfl, sF _ _ (t1 _ _ e0)⟩
            | 1, _, hv =>
              have e : some (.inr 65 : Sum Nat Nat) = some v := hv
              cases e
              exact ⟨p1, rfl, sF _ _ (t2 _ _ e1)⟩
            | 2, _, hv =>
              have e : some (.inr 183600 : Sum Nat Nat) = some v := hv
              cases e
              exact ⟨p2, rfl, sF _ _ (t3 _ _ e2)⟩
            | 3, _, hv =>
              have e : some (.inr 59 : Sum Nat Nat) = some v := hv
              cases e
              exact ⟨p3, rfl, sF _ _ (t4 _ _ e3)⟩
            | 4, _, hv =>
              have e : some (.inl 2 : Sum Nat Nat) = some v := hv
              cases e
              exact ⟨p4, rfl, sF _ _ (t5 _ _ e4)⟩
            | 5, _, hv =>
              have e : some (.inl 0 : Sum Nat Nat) = some v := hv
              cases e
              exact ⟨p5, rfl, sF _ _ (t6 _ _ e5)⟩
            | 6, _, hv =>
              have e : some (.inl 2 : Sum Nat Nat) = some v := hv
              cases e
              exact ⟨p6, rfl, sF _ _ (t7 _ _ e6)⟩
            | 7, _, hv =>
              have e : some (.inl 5 : Sum Nat Nat) = some v := hv
              cases e
              exact ⟨p7, rfl, sF _ _ (t9 _ _ e7)⟩
            | 8, _, hv =>
              have e : some (.inr 1000000 : Sum Nat Nat) = some v := hv
              cases e
              exact ⟨p8, rfl, sF _ _ (t10 _ _ e8)⟩
            | 9, _, hv =>
              have e : some (.inl 8 : Sum Nat Nat) = some v := hv
              cases e
              exact ⟨p9, rfl, sF _ _ (t11 _ _ e9)⟩
            | 10, _, hv =>
              have e : some (.inl 0 : Sum Nat Nat) = some v := hv
              cases e
              exact ⟨p10, rfl, sF _ _ (t12 _ _ e10)⟩
            | 11, _, hv =>
              have e : some (.inl 2 : Sum Nat Nat) = some v := hv
              cases e
              exact ⟨p11, rfl, sF _ _ (t13 _ _ e11)⟩
            | 12, _, hv =>
              have e : some (.inl 7 : Sum Nat Nat) = some v := hv
              cases e
              exact ⟨p12, rfl, sF _ _ (t14 _ _ e12)⟩
            | n + 13, h, _ => exact absurd h (by omega)
    · exact h.elim
end
end K00
namespace K00
open PySem PySem.Spec PyProof.Rows L2 G
abbrev s_init : Stmt := inClass (topS 7) 0
theorem sc_init : FnScope ["self", "spot"] ["self", "spot"] (defScope s_init) := ⟨rfl, rfl, rfl, by decide +kernel, rfl, by decide +kernel, by decide +kernel⟩
section
variable {P : Program} {w : World} {K : PySem.W.Frag} {mg : Str → Option Value} {base : Heap} {C : Addr}
theorem f_init {f : Addr} {fd : FuncData} (F : Fun K "__init__" "ParseError.__init__" s_init f fd) (T : OexC K C) (no : PySem.W.findIn K (.ref C) "spot" = some none) : FnOk P w K mg base (L2.CX P w) 1 f fd ["self", "spot"] (spInit C "spot") := by
  refine F.okX sc_init (fun vs H Q E h => ?_) (fun cdv A outer s H vs Q E hr h => ⟨_, (pss_one (ps_ost (pv 0) (pv 1))), ?_⟩)
  · revert h
    unfold spInit
    split <;> intro h <;> first | rfl | exact False.elim h
  · unfold spInit at h
    split at h
    · simp only [L2.start, List.length_cons, List.length_nil, List.map_cons, List.map_nil, List.cons_append, List.nil_append]
      obtain ⟨h1, h2⟩ := h
      exact ⟨_, rfl, _, rfl, _, C, rfl, T, no, .inl ⟨h1, fun dx hn hne => h2 dx hn hne⟩⟩
    · exact h.elim
/-- an error of the class at S is what «except S» names -/
theorem exm_self {S : Addr} (h1 : PySem.W.subIn K (.ref S) (.type "BaseException") = some true) (h2 : PySem.W.isClsIn K S = true) (h3 : PySem.W.typeIn K (.ref S) = some (.type "type")) (h4 : PySem.W.subIn K (.ref S) (.ref S) = some true) :
    PySem.W.exmOne K (.ref S) (.ref S) = some true := by
  have e1 : (PySem.W.subIn K (.ref S) (.type "BaseException") == some true) = true := by rw [h1]; rfl
  have e2 : ((PySem.W.clsIn K S).isSome && PySem.W.typeIn K (.ref S) == some (.type "type")) = true := by
    have h2' : (PySem.W.clsIn K S).isSome = true := h2
    rw [h2', h3]; rfl
  show (if (PySem.W.subIn K (.ref S) (.type "BaseException") == some true) = true then (if ((PySem.W.clsIn K S).isSome && PySem.W.typeIn K (.ref S) == some (.type "type")) = true then PySem.W.subIn K (.ref S) (.ref S) else none) else none) = some true
  rw [if_pos e1, if_pos e2]
  exact h4
theorem cx_false {l : PySem.W.OpenLaw} {w : World} {H : Hp} {s : Shared} {e : Value} {s2 : Shared} (z : L2.CX l.prog w [] H s (fun _ _ _ => False) e s2) : False := by
  obtain ⟨_, _, _, _, _, _, _, _, _, _, _, _, z⟩ := z
  exact z.elim
theorem all_mk {l : PySem.W.OpenLaw} {h : Heap} {fa : Addr} (X : K.In h) (G : h.Ns mainGlobals mg) (hfa : mg "law" = some (.ref fa))
    {HE N fI f0 f1 f2 f3 f4 f5 f6 f7 f8 f9 f10 f11 f12 f13 f14 f15 f16 f17 f18 f19 f20 f21 f22 : Addr} {kVI dcI pmI cdI ctI ocI oc0 kV0 dc0 pm0 cd0 ct0 oc1 kV1 dc1 pm1 cd1 ct1 oc2 kV2 dc2 pm2 cd2 ct2 oc3 kV3 dc3 pm3 cd3 ct3 oc4 kV4 dc4 pm4 cd4 ct4 oc5 kV5 dc5 pm5 cd5 ct5 oc6 kV6 dc6 pm6 cd6 ct6 oc7 kV7 dc7 pm7 cd7 ct7 oc8 kV8 dc8 pm8 cd8 ct8 oc9 kV9 dc9 pm9 cd9 ct9 oc10 kV10 dc10 pm10 cd10 ct10 oc11 kV11 dc11 pm11 cd11 ct11 oc12 kV12 dc12 pm12 cd12 ct12 oc13 kV13 dc13 pm13 cd13 ct13 oc14 kV14 dc14 pm14 cd14 ct14 oc15 kV15 dc15 pm15 cd15 ct15 oc16 kV16 dc16 pm16 cd16 ct16 oc17 kV17 dc17 pm17 cd17 ct17 oc18 kV18 dc18 pm18 cd18 ct18 oc19 kV19 dc19 pm19 cd19 ct19 oc20 kV20 dc20 pm20 cd20 ct20 oc21 kV21 dc21 pm21 cd21 ct21 oc22 kV22 dc22 pm22 cd22 ct22 : Value} {odI anI od0 an0 od1 an1 od2 an2 od3 an3 od4 an4 od5 an5 od6 an6 od7 an7 od8 an8 od9 an9 od10 an10 od11 an11 od12 an12 od13 an13 od14 an14 od15 an15 od16 an16 od17 an17 od18 an18 od19 an19 od20 an20 od21 an21 od22 an22 : Option Addr} {slI sl0 sl1 sl2 sl3 sl4 sl5 sl6 sl7 sl8 sl9 sl10 sl11 sl12 sl13 sl14 sl15 sl16 sl17 sl18 sl19 sl20 sl21 sl22 : Array (Option Value)} {t_DAY t_HOUR t_MAX_FIRST_DIGITS t_MAX_LATER_DIGITS t_MAX_TICK t_MINUTE : Tok}
    {nm q : Str} {bs : List Value} {sn : List Str} {sub : List Value} {ab : Bool} {col : Option Bool} {dd : Option Addr} {m0 m1 m2 m3 m5 : Option Value}
    (aC : PySem.W.nsIn K mainGlobals "ParseError" = some (some (.ref C)))
    (xL : K.lookup C = some (excClassObj nm q C N bs [.ref HE, .type "ValueError", .type "Exception", .type "BaseException", .type "object"] true sn sub ab col dd m0 m1 m2 m3 m5 "ValueError.__new__"))
    (sa : PySem.W.findIn K (.ref C) "__setattr__" = some (some (.builtin "object.__setattr__")))
    (ga : PySem.W.findIn K (.ref C) "__getattribute__" = some (some (.builtin "BaseException.__getattribute__")))
    (gg : PySem.W.findIn K (.ref C) "__getattr__" = some none)
    (nb : PySem.W.findIn K (.ref C) "spot" = some none)
    (aI : PySem.W.findIn K (.ref C) "__init__" = some (some (.ref fI)))
    (tI : PySem.W.typeIn K (.ref fI) = some (.type "function"))
    (lI : K.lookup fI = some ⟨ocI, odI, .func (PySem.W.fnOf "__init__" "ParseError.__init__" (defArgs s_init) (defBody s_init) (defScope s_init) .none kVI dcI pmI anI cdI ctI), slI⟩)
    (cI : PySem.W.codeIn K cdI "ParseError.__init__" = true)
    (kI : PySem.W.keepIn K (.ref fI) = true)
    (kC : PySem.W.keepIn K (.ref C) = true)
    (eC : PySem.W.subIn K (.ref C) (.type "BaseException") = some true)
    (tC : PySem.W.typeIn K (.ref C) = some (.type "type"))
    (hC : PySem.W.hasDictIn K C = true)
    (iC : PySem.W.isClsIn K C = true)
    (sC : PySem.W.subIn K (.ref C) (.ref C) = some true)
    (a0 : PySem.W.nsIn K mainGlobals "is_between" = some (some (.ref f0)))
    (l0 : K.lookup f0 = some ⟨oc0, od0, .func (PySem.W.fnOf "is_between" "is_between" (defArgs s_is_between) (defBody s_is_between) (defScope s_is_between) .none kV0 dc0 pm0 an0 cd0 ct0), sl0⟩)
    (c0 : PySem.W.codeIn K cd0 "is_between" = true)
    (k0 : PySem.W.keepIn K (.ref f0) = true)
    (a1 : PySem.W.nsIn K mainGlobals "is_digit" = some (some (.ref f1)))
    (l1 : K.lookup f1 = some ⟨oc1, od1, .func (PySem.W.fnOf "is_digit" "is_digit" (defArgs s_is_digit) (defBody s_is_digit) (defScope s_is_digit) .none kV1 dc1 pm1 an1 cd1 ct1), sl1⟩)
    (c1 : PySem.W.codeIn K cd1 "is_digit" = true)
    (k1 : PySem.W.keepIn K (.ref f1) = true)
    (a2 : PySem.W.nsIn K mainGlobals "digits_end" = some (some (.ref f2)))
    (l2 : K.lookup f2 = some ⟨oc2, od2, .func (PySem.W.fnOf "digits_end" "digits_end" (defArgs s_digits_end) (defBody s_digits_end) (defScope s_digits_end) .none kV2 dc2 pm2 an2 cd2 ct2), sl2⟩)
    (c2 : PySem.W.codeIn K cd2 "digits_end" = true)
    (k2 : PySem.W.keepIn K (.ref f2) = true)
    (a3 : PySem.W.nsIn K mainGlobals "is_tick" = some (some (.ref f3)))
    (l3 : K.lookup f3 = some ⟨oc3, od3, .func (PySem.W.fnOf "is_tick" "is_tick" (defArgs s_is_tick) (defBody s_is_tick) (defScope s_is_tick) .none kV3 dc3 pm3 an3 cd3 ct3), sl3⟩)
    (c3 : PySem.W.codeIn K cd3 "is_tick" = true)
    (k3 : PySem.W.keepIn K (.ref f3) = true)
    (a4 : PySem.W.nsIn K mainGlobals "check_tick" = some (some (.ref f4)))
    (l4 : K.lookup f4 = some ⟨oc4, od4, .func (PySem.W.fnOf "check_tick" "check_tick" (defArgs s_check_tick) (defBody s_check_tick) (defScope s_check_tick) .none kV4 dc4 pm4 an4 cd4 ct4), sl4⟩)
    (c4 : PySem.W.codeIn K cd4 "check_tick" = true)
    (k4 : PySem.W.keepIn K (.ref f4) = true)
    (a5 : PySem.W.nsIn K mainGlobals "text_of_ticks" = some (some (.ref f5)))
    (l5 : K.lookup f5 = some ⟨oc5, od5, .func (PySem.W.fnOf "text_of_ticks" "text_of_ticks" (defArgs s_text_of_ticks) (defBody s_text_of_ticks) (defScope s_text_of_ticks) .none kV5 dc5 pm5 an5 cd5 ct5), sl5⟩)
    (c5 : PySem.W.codeIn K cd5 "text_of_ticks" = true)
    (k5 : PySem.W.keepIn K (.ref f5) = true)
    (a6 : PySem.W.nsIn K mainGlobals "ticks_of" = some (some (.ref f6)))
    (l6 : K.lookup f6 = some ⟨oc6, od6, .func (PySem.W.fnOf "ticks_of" "ticks_of" (defArgs s_ticks_of) (defBody s_ticks_of) (defScope s_ticks_of) .none kV6 dc6 pm6 an6 cd6 ct6), sl6⟩)
    (c6 : PySem.W.codeIn K cd6 "ticks_of" = true)
    (k6 : PySem.W.keepIn K (.ref f6) = true)
    (a7 : PySem.W.nsIn K mainGlobals "_read_numbers" = some (some (.ref f7)))
    (l7 : K.lookup f7 = some ⟨oc7, od7, .func (PySem.W.fnOf "_read_numbers" "_read_numbers" (defArgs s__read_numbers) (defBody s__read_numbers) (defScope s__read_numbers) .none kV7 dc7 pm7 an7 cd7 ct7), sl7⟩)
    (c7 : PySem.W.codeIn K cd7 "_read_numbers" = true)
    (k7 : PySem.W.keepIn K (.ref f7) = true)
    (a8 : PySem.W.nsIn K mainGlobals "_number_end" = some (some (.ref f8)))
    (l8 : K.lookup f8 = some ⟨oc8, od8, .func (PySem.W.fnOf "_number_end" "_number_end" (defArgs s__number_end) (defBody s__number_end) (defScope s__number_end) .none kV8 dc8 pm8 an8 cd8 ct8), sl8⟩)
    (c8 : PySem.W.codeIn K cd8 "_number_end" = true)
    (k8 : PySem.W.keepIn K (.ref f8) = true)
    (a9 : PySem.W.nsIn K mainGlobals "_worths" = some (some (.ref f9)))
    (l9 : K.lookup f9 = some ⟨oc9, od9, .func (PySem.W.fnOf "_worths" "_worths" (defArgs s__worths) (defBody s__worths) (defScope s__worths) .none kV9 dc9 pm9 an9 cd9 ct9), sl9⟩)
    (c9 : PySem.W.codeIn K cd9 "_worths" = true)
    (k9 : PySem.W.keepIn K (.ref f9) = true)
    (a10 : PySem.W.nsIn K mainGlobals "_law_dice" = some (some (.ref f10)))
    (l10 : K.lookup f10 = some ⟨oc10, od10, .func (PySem.W.fnOf "_law_dice" "_law_dice" (defArgs s__law_dice) (defBody s__law_dice) (defScope s__law_dice) .none kV10 dc10 pm10 an10 cd10 ct10), sl10⟩)
    (c10 : PySem.W.codeIn K cd10 "_law_dice" = true)
    (k10 : PySem.W.keepIn K (.ref f10) = true)
    (a11 : PySem.W.nsIn K mainGlobals "_law_roll" = some (some (.ref f11)))
    (l11 : K.lookup f11 = some ⟨oc11, od11, .func (PySem.W.fnOf "_law_roll" "_law_roll" (defArgs s__law_roll) (defBody s__law_roll) (defScope s__law_roll) .none kV11 dc11 pm11 an11 cd11 ct11), sl11⟩)
    (c11 : PySem.W.codeIn K cd11 "_law_roll" = true)
    (k11 : PySem.W.keepIn K (.ref f11) = true)
    (a12 : PySem.W.nsIn K mainGlobals "_law_pick" = some (some (.ref f12)))
    (l12 : K.lookup f12 = some ⟨oc12, od12, .func (PySem.W.fnOf "_law_pick" "_law_pick" (defArgs s__law_pick) (defBody s__law_pick) (defScope s__law_pick) .none kV12 dc12 pm12 an12 cd12 ct12), sl12⟩)
    (c12 : PySem.W.codeIn K cd12 "_law_pick" = true)
    (k12 : PySem.W.keepIn K (.ref f12) = true)
    (a13 : PySem.W.nsIn K mainGlobals "_law_digits" = some (some (.ref f13)))
    (l13 : K.lookup f13 = some ⟨oc13, od13, .func (PySem.W.fnOf "_law_digits" "_law_digits" (defArgs s__law_digits) (defBody s__law_digits) (defScope s__law_digits) .none kV13 dc13 pm13 an13 cd13 ct13), sl13⟩)
    (c13 : PySem.W.codeIn K cd13 "_law_digits" = true)
    (k13 : PySem.W.keepIn K (.ref f13) = true)
    (a14 : PySem.W.nsIn K mainGlobals "_law_written" = some (some (.ref f14)))
    (l14 : K.lookup f14 = some ⟨oc14, od14, .func (PySem.W.fnOf "_law_written" "_law_written" (defArgs s__law_written) (defBody s__law_written) (defScope s__law_written) .none kV14 dc14 pm14 an14 cd14 ct14), sl14⟩)
    (c14 : PySem.W.codeIn K cd14 "_law_written" = true)
    (k14 : PySem.W.keepIn K (.ref f14) = true)
    (a15 : PySem.W.nsIn K mainGlobals "_law_parts" = some (some (.ref f15)))
    (l15 : K.lookup f15 = some ⟨oc15, od15, .func (PySem.W.fnOf "_law_parts" "_law_parts" (defArgs s__law_parts) (defBody s__law_parts) (defScope s__law_parts) .none kV15 dc15 pm15 an15 cd15 ct15), sl15⟩)
    (c15 : PySem.W.codeIn K cd15 "_law_parts" = true)
    (k15 : PySem.W.keepIn K (.ref f15) = true)
    (a16 : PySem.W.nsIn K mainGlobals "_law_goes_on" = some (some (.ref f16)))
    (l16 : K.lookup f16 = some ⟨oc16, od16, .func (PySem.W.fnOf "_law_goes_on" "_law_goes_on" (defArgs s__law_goes_on) (defBody s__law_goes_on) (defScope s__law_goes_on) .none kV16 dc16 pm16 an16 cd16 ct16), sl16⟩)
    (c16 : PySem.W.codeIn K cd16 "_law_goes_on" = true)
    (k16 : PySem.W.keepIn K (.ref f16) = true)
    (a17 : PySem.W.nsIn K mainGlobals "_law_due" = some (some (.ref f17)))
    (l17 : K.lookup f17 = some ⟨oc17, od17, .func (PySem.W.fnOf "_law_due" "_law_due" (defArgs s__law_due) (defBody s__law_due) (defScope s__law_due) .none kV17 dc17 pm17 an17 cd17 ct17), sl17⟩)
    (c17 : PySem.W.codeIn K cd17 "_law_due" = true)
    (k17 : PySem.W.keepIn K (.ref f17) = true)
    (a18 : PySem.W.nsIn K mainGlobals "_law_told" = some (some (.ref f18)))
    (l18 : K.lookup f18 = some ⟨oc18, od18, .func (PySem.W.fnOf "_law_told" "_law_told" (defArgs s__law_told) (defBody s__law_told) (defScope s__law_told) .none kV18 dc18 pm18 an18 cd18 ct18), sl18⟩)
    (c18 : PySem.W.codeIn K cd18 "_law_told" = true)
    (k18 : PySem.W.keepIn K (.ref f18) = true)
    (a19 : PySem.W.nsIn K mainGlobals "_law_drawn" = some (some (.ref f19)))
    (l19 : K.lookup f19 = some ⟨oc19, od19, .func (PySem.W.fnOf "_law_drawn" "_law_drawn" (defArgs s__law_drawn) (defBody s__law_drawn) (defScope s__law_drawn) .none kV19 dc19 pm19 an19 cd19 ct19), sl19⟩)
    (c19 : PySem.W.codeIn K cd19 "_law_drawn" = true)
    (k19 : PySem.W.keepIn K (.ref f19) = true)
    (a20 : PySem.W.nsIn K mainGlobals "_law_spoilt" = some (some (.ref f20)))
    (l20 : K.lookup f20 = some ⟨oc20, od20, .func (PySem.W.fnOf "_law_spoilt" "_law_spoilt" (defArgs s__law_spoilt) (defBody s__law_spoilt) (defScope s__law_spoilt) .none kV20 dc20 pm20 an20 cd20 ct20), sl20⟩)
    (c20 : PySem.W.codeIn K cd20 "_law_spoilt" = true)
    (k20 : PySem.W.keepIn K (.ref f20) = true)
    (a21 : PySem.W.nsIn K mainGlobals "_law_right" = some (some (.ref f21)))
    (l21 : K.lookup f21 = some ⟨oc21, od21, .func (PySem.W.fnOf "_law_right" "_law_right" (defArgs s__law_right) (defBody s__law_right) (defScope s__law_right) .none kV21 dc21 pm21 an21 cd21 ct21), sl21⟩)
    (c21 : PySem.W.codeIn K cd21 "_law_right" = true)
    (k21 : PySem.W.keepIn K (.ref f21) = true)
    (a22 : PySem.W.nsIn K mainGlobals "law" = some (some (.ref f22)))
    (l22 : K.lookup f22 = some ⟨oc22, od22, .func (PySem.W.fnOf "law" "law" (defArgs s_law) (defBody s_law) (defScope s_law) .none kV22 dc22 pm22 an22 cd22 ct22), sl22⟩)
    (c22 : PySem.W.codeIn K cd22 "law" = true)
    (k22 : PySem.W.keepIn K (.ref f22) = true)
    (g_DAY : PySem.W.nsIn K mainGlobals "DAY" = some (some (.int 86400 t_DAY)))
    (g_HOUR : PySem.W.nsIn K mainGlobals "HOUR" = some (some (.int 3600 t_HOUR)))
    (g_MAX_FIRST_DIGITS : PySem.W.nsIn K mainGlobals "MAX_FIRST_DIGITS" = some (some (.int 7 t_MAX_FIRST_DIGITS)))
    (g_MAX_LATER_DIGITS : PySem.W.nsIn K mainGlobals "MAX_LATER_DIGITS" = some (some (.int 2 t_MAX_LATER_DIGITS)))
    (g_MAX_TICK : PySem.W.nsIn K mainGlobals "MAX_TICK" = some (some (.int 1000000 t_MAX_TICK)))
    (g_MINUTE : PySem.W.nsIn K mainGlobals "MINUTE" = some (some (.int 60 t_MINUTE)))
    (n_abs : PySem.W.nsIn K mainGlobals "abs" = some none)
    (n_bool : PySem.W.nsIn K mainGlobals "bool" = some none)
    (n_divmod : PySem.W.nsIn K mainGlobals "divmod" = some none)
    (n_enumerate : PySem.W.nsIn K mainGlobals "enumerate" = some none)
    (n_int : PySem.W.nsIn K mainGlobals "int" = some none)
    (n_isinstance : PySem.W.nsIn K mainGlobals "isinstance" = some none)
    (n_len : PySem.W.nsIn K mainGlobals "len" = some none)
    (n_max : PySem.W.nsIn K mainGlobals "max" = some none)
    (n_min : PySem.W.nsIn K mainGlobals "min" = some none)
    (n_range : PySem.W.nsIn K mainGlobals "range" = some none)
    (n_str : PySem.W.nsIn K mainGlobals "str" = some none)
    (n_sum : PySem.W.nsIn K mainGlobals "sum" = some none)
    (n_zip : PySem.W.nsIn K mainGlobals "zip" = some none)
    (nd : PySem.W.nsIn K cStatics "sys.int_max_str_digits" = some none)
    : ∃ fd : FuncData, (∀ (s : Shared) (v : Value), BindsTo s fd ⟨[v], []⟩ [("script", v)]) ∧ ∀ base : Heap, K.In base → base.Ns mainGlobals mg → FnOk l.prog w K mg base (L2.CX l.prog w) 9 fa fd ["script"] (sp_law K) := by
  have e := hfa.symm.trans (PySem.W.mg_of X G a22)
  cases e
  have T : Txt K mg := { g_DAY := ⟨_, PySem.W.mg_of X G g_DAY⟩, g_HOUR := ⟨_, PySem.W.mg_of X G g_HOUR⟩, g_MAX_FIRST_DIGITS := ⟨_, PySem.W.mg_of X G g_MAX_FIRST_DIGITS⟩, g_MAX_LATER_DIGITS := ⟨_, PySem.W.mg_of X G g_MAX_LATER_DIGITS⟩, g_MAX_TICK := ⟨_, PySem.W.mg_of X G g_MAX_TICK⟩, g_MINUTE := ⟨_, PySem.W.mg_of X G g_MINUTE⟩, n_abs := PySem.W.mg_none_of X G n_abs, n_bool := PySem.W.mg_none_of X G n_bool, n_divmod := PySem.W.mg_none_of X G n_divmod, n_enumerate := PySem.W.mg_none_of X G n_enumerate, n_int := PySem.W.mg_none_of X G n_int, n_isinstance := PySem.W.mg_none_of X G n_isinstance, n_len := PySem.W.mg_none_of X G n_len, n_max := PySem.W.mg_none_of X G n_max, n_min := PySem.W.mg_none_of X G n_min, n_range := PySem.W.mg_none_of X G n_range, n_str := PySem.W.mg_none_of X G n_str, n_sum := PySem.W.mg_none_of X G n_sum, n_zip := PySem.W.mg_none_of X G n_zip, nd := nd }
  have ox : OexC K C := ⟨⟨nm, q, N, bs, _, sn, sub, ab, col, dd, m0, m1, m2, m3, m5, xL, by rfl⟩, sa, eC, tC, kC⟩
  have FI := fun_mk (st := s_init) lI cI kI
  have bI := FI.binds (ps := ["self", "spot"]) fun _ _ _ _ _ _ us hl => match us, hl with | [_, _], _ => rfl
  refine ⟨PySem.W.fnOf "law" "law" (defArgs s_law) (defBody s_law) (defScope s_law) .none kV22 dc22 pm22 an22 cd22 ct22, fun s v => .of_eq rfl, fun base _ _ => ?_⟩
  have R_ParseError : ErrOk l.prog w K mg base "ParseError" "spot" C := ⟨PySem.W.mg_of X G aC, ox, ⟨ga, gg, eC, hC⟩, nb, exm_self eC iC tC sC, ⟨fI, _, _, aI, tI, f_init FI ox nb, bI⟩⟩
  have C__law_dice := c__law_dice (P := l.prog) (w := w) (base := base) T (fun_mk (st := s__law_dice) l10 c10 k10) (PySem.W.mg_of X G a10) 
  have C_is_digit := c_is_digit (P := l.prog) (w := w) (base := base) T (fun_mk (st := s_is_digit) l1 c1 k1) (PySem.W.mg_of X G a1) 
  have C_digits_end := c_digits_end (P := l.prog) (w := w) (base := base) T (fun_mk (st := s_digits_end) l2 c2 k2) (PySem.W.mg_of X G a2) (C_is_digit := C_is_digit)
  have C__number_end := c__number_end (P := l.prog) (w := w) (base := base) T (fun_mk (st := s__number_end) l8 c8 k8) (PySem.W.mg_of X G a8) (C_digits_end := C_digits_end) (R_ParseError := R_ParseError)
  have C__read_numbers := c__read_numbers (P := l.prog) (w := w) (base := base) T (fun_mk (st := s__read_numbers) l7 c7 k7) (PySem.W.mg_of X G a7) (C__number_end := C__number_end) (R_ParseError := R_ParseError)
  have C__worths := c__worths (P := l.prog) (w := w) (base := base) T (fun_mk (st := s__worths) l9 c9 k9) (PySem.W.mg_of X G a9) 
  have C_ticks_of := c_ticks_of (P := l.prog) (w := w) (base := base) T (fun_mk (st := s_ticks_of) l6 c6 k6) (PySem.W.mg_of X G a6) (C__read_numbers := C__read_numbers) (C__worths := C__worths) (R_ParseError := R_ParseError)
  have C__law_told := c__law_told (P := l.prog) (w := w) (base := base) T (fun_mk (st := s__law_told) l18 c18 k18) (PySem.W.mg_of X G a18) (C_ticks_of := C_ticks_of) (R_ParseError := R_ParseError)
  have C__law_roll := c__law_roll (P := l.prog) (w := w) (base := base) T (fun_mk (st := s__law_roll) l11 c11 k11) (PySem.W.mg_of X G a11) 
  have C__law_pick := c__law_pick (P := l.prog) (w := w) (base := base) T (fun_mk (st := s__law_pick) l12 c12 k12) (PySem.W.mg_of X G a12) (C__law_roll := C__law_roll)
  have C__law_digits := c__law_digits (P := l.prog) (w := w) (base := base) T (fun_mk (st := s__law_digits) l13 c13 k13) (PySem.W.mg_of X G a13) 
  have C__law_drawn := c__law_drawn (P := l.prog) (w := w) (base := base) T (fun_mk (st := s__law_drawn) l19 c19 k19) (PySem.W.mg_of X G a19) (C__law_digits := C__law_digits) (C__law_pick := C__law_pick) (C__law_roll := C__law_roll)
  have C_is_between := c_is_between (P := l.prog) (w := w) (base := base) T (fun_mk (st := s_is_between) l0 c0 k0) (PySem.W.mg_of X G a0) 
  have C_is_tick := c_is_tick (P := l.prog) (w := w) (base := base) T (fun_mk (st := s_is_tick) l3 c3 k3) (PySem.W.mg_of X G a3) (C_is_between := C_is_between)
  have C_check_tick := c_check_tick (P := l.prog) (w := w) (base := base) T (fun_mk (st := s_check_tick) l4 c4 k4) (PySem.W.mg_of X G a4) (C_is_tick := C_is_tick)
  have C_text_of_ticks := c_text_of_ticks (P := l.prog) (w := w) (base := base) T (fun_mk (st := s_text_of_ticks) l5 c5 k5) (PySem.W.mg_of X G a5) (C_check_tick := C_check_tick)
  have C__law_written := c__law_written (P := l.prog) (w := w) (base := base) T (fun_mk (st := s__law_written) l14 c14 k14) (PySem.W.mg_of X G a14) (C__law_digits := C__law_digits)
  have C__law_spoilt := c__law_spoilt (P := l.prog) (w := w) (base := base) T (fun_mk (st := s__law_spoilt) l20 c20 k20) (PySem.W.mg_of X G a20) (C__law_pick := C__law_pick) (C__law_roll := C__law_roll)
  have C__law_parts := c__law_parts (P := l.prog) (w := w) (base := base) T (fun_mk (st := s__law_parts) l15 c15 k15) (PySem.W.mg_of X G a15) 
  have C__law_goes_on := c__law_goes_on (P := l.prog) (w := w) (base := base) T (fun_mk (st := s__law_goes_on) l16 c16 k16) (PySem.W.mg_of X G a16) (C__law_parts := C__law_parts)
  have C__law_due := c__law_due (P := l.prog) (w := w) (base := base) T (fun_mk (st := s__law_due) l17 c17 k17) (PySem.W.mg_of X G a17) (C__law_parts := C__law_parts) (C__law_goes_on := C__law_goes_on)
  have C__law_right := c__law_right (P := l.prog) (w := w) (base := base) T (fun_mk (st := s__law_right) l21 c21 k21) (PySem.W.mg_of X G a21) (C__law_pick := C__law_pick) (C__law_roll := C__law_roll) (C__law_drawn := C__law_drawn) (C_text_of_ticks := C_text_of_ticks) (C__law_written := C__law_written) (C_ticks_of := C_ticks_of) (C__law_spoilt := C__law_spoilt) (C__law_told := C__law_told) (C__law_due := C__law_due)
  exact f_law T (fun_mk (st := s_law) l22 c22 k22) (C__law_dice := C__law_dice) (C__law_told := C__law_told) (C__law_right := C__law_right)
end
theorem walk {l : PySem.W.OpenLaw} {q : Program} {loose : List Str} {XP : (Str → Option Value) → Heap → Prop} {YP : World → Heap → Prop} {d : DefRec} {K : Params → PySem.W.Frag} (hn : l.most = some 63) (hdf : d.params.defaults = [])
    (hY : ∀ (w : World) (h : Heap), YP w h → (K w.params).In h)
    (F : ∀ (w : World) (mg : Str → Option Value) (fa : Addr) (h : Heap), (K w.params).In h → h.Ns mainGlobals mg → mg d.name = some (.ref fa) →
      ∃ fd : FuncData, (∀ (s : Shared) (u : Value), BindsTo s fd ⟨[u], []⟩ [("script", u)]) ∧ ∀ base : Heap, (K w.params).In base → base.Ns mainGlobals mg → FnOk l.prog w (K w.params) mg base (L2.CX l.prog w) 9 fa fd ["script"] (sp_law (K w.params))) :
    PySem.W.WalkO q loose XP YP l.row.toRowW d [] (fun f vs => PySem.call f vs) :=
  L2.walk_of (n := 63) (k := 9) (x := "script") (CX := fun w => L2.CX l.prog w) (sp := fun w => sp_law (K w.params)) hn (by decide) hdf ⟨rfl, by decide, by decide⟩ hY F (fun _ _ a ns hl _ hS => ⟨ns, hS, fun _ => rfl⟩) fun w H s e s' z => cx_false z
end K00
set_option maxHeartbeats 0 in
open PySem PySem.W PyProof.Rows in
theorem PySem.Challenge.cw_toldstarts_k00_texts_of_ticks_holds : PySem.Challenge.rw_toldstarts_k00_texts_of_ticks.Holds := by
  w_on; o_law; k_head; (case hw => w_witness2)
  k_fill
  refine K00.walk (l := PySem.Challenge.rw_toldstarts_k00_texts_of_ticks) rfl rfl (fun w h Y => PySem.W.kIn_of Y) ?F
  case F =>
    intro w mg fa h KX G hmg
    refine' K00.all_mk KX G hmg ?aC ?xL ?sa ?ga ?gg ?nb ?aI ?tI ?lI ?cI ?kI ?kC ?eC ?tC ?hC ?iC ?sC ?a0 ?l0 ?c0 ?k0 ?a1 ?l1 ?c1 ?k1 ?a2 ?l2 ?c2 ?k2 ?a3 ?l3 ?c3 ?k3 ?a4 ?l4 ?c4 ?k4 ?a5 ?l5 ?c5 ?k5 ?a6 ?l6 ?c6 ?k6 ?a7 ?l7 ?c7 ?k7 ?a8 ?l8 ?c8 ?k8 ?a9 ?l9 ?c9 ?k9 ?a10 ?l10 ?c10 ?k10 ?a11 ?l11 ?c11 ?k11 ?a12 ?l12 ?c12 ?k12 ?a13 ?l13 ?c13 ?k13 ?a14 ?l14 ?c14 ?k14 ?a15 ?l15 ?c15 ?k15 ?a16 ?l16 ?c16 ?k16 ?a17 ?l17 ?c17 ?k17 ?a18 ?l18 ?c18 ?k18 ?a19 ?l19 ?c19 ?k19 ?a20 ?l20 ?c20 ?k20 ?a21 ?l21 ?c21 ?k21 ?a22 ?l22 ?c22 ?k22 ?g_DAY ?g_HOUR ?g_MAX_FIRST_DIGITS ?g_MAX_LATER_DIGITS ?g_MAX_TICK ?g_MINUTE ?n_abs ?n_bool ?n_divmod ?n_enumerate ?n_int ?n_isinstance ?n_len ?n_max ?n_min ?n_range ?n_str ?n_sum ?n_zip ?nd
    (case aC => k_is)
    (case xL => k_is)
    (case sa => k_is)
    (case ga => k_is)
    (case gg => k_is)
    (case nb => k_is)
    (case aI => k_is)
    (case tI => k_is)
    (case lI => k_is)
    (case cI => k_is)
    (case kI => k_is)
    (case kC => k_is)
    (case eC => k_is)
    (case tC => k_is)
    (case hC => k_is)
    (case iC => k_is)
    (case sC => first | rfl | k_is)
    (case a0 => k_is)
    (case l0 => k_is)
    (case c0 => k_is)
    (case k0 => k_is)
    (case a1 => k_is)
    (case l1 => k_is)
    (case c1 => k_is)
    (case k1 => k_is)
    (case a2 => k_is)
    (case l2 => k_is)
    (case c2 => k_is)
    (case k2 => k_is)
    (case a3 => k_is)
    (case l3 => k_is)
    (case c3 => k_is)
    (case k3 => k_is)
    (case a4 => k_is)
    (case l4 => k_is)
    (case c4 => k_is)
    (case k4 => k_is)
    (case a5 => k_is)
    (case l5 => k_is)
    (case c5 => k_is)
    (case k5 => k_is)
    (case a6 => k_is)
    (case l6 => k_is)
    (case c6 => k_is)
    (case k6 => k_is)
    (case a7 => k_is)
    (case l7 => k_is)
    (case c7 => k_is)
    (case k7 => k_is)
    (case a8 => k_is)
    (case l8 => k_is)
    (case c8 => k_is)
    (case k8 => k_is)
    (case a9 => k_is)
    (case l9 => k_is)
    (case c9 => k_is)
    (case k9 => k_is)
    (case a10 => k_is)
    (case l10 => k_is)
    (case c10 => k_is)
    (case k10 => k_is)
    (case a11 => k_is)
    (case l11 => k_is)
    (case c11 => k_is)
    (case k11 => k_is)
    (case a12 => k_is)
    (case l12 => k_is)
    (case c12 => k_is)
    (case k12 => k_is)
    (case a13 => k_is)
    (case l13 => k_is)
    (case c13 => k_is)
    (case k13 => k_is)
    (case a14 => k_is)
    (case l14 => k_is)
    (case c14 => k_is)
    (case k14 => k_is)
    (case a15 => k_is)
    (case l15 => k_is)
    (case c15 => k_is)
    (case k15 => k_is)
    (case a16 => k_is)
    (case l16 => k_is)
    (case c16 => k_is)
    (case k16 => k_is)
    (case a17 => k_is)
    (case l17 => k_is)
    (case c17 => k_is)
    (case k17 => k_is)
    (case a18 => k_is)
    (case l18 => k_is)
    (case c18 => k_is)
    (case k18 => k_is)
    (case a19 => k_is)
    (case l19 => k_is)
    (case c19 => k_is)
    (case k19 => k_is)
    (case a20 => k_is)
    (case l20 => k_is)
    (case c20 => k_is)
    (case k20 => k_is)
    (case a21 => k_is)
    (case l21 => k_is)
    (case c21 => k_is)
    (case k21 => k_is)
    (case a22 => k_is)
    (case l22 => k_is)
    (case c22 => k_is)
    (case k22 => k_is)
    (case g_DAY => k_is)
    (case g_HOUR => k_is)
    (case g_MAX_FIRST_DIGITS => k_is)
    (case g_MAX_LATER_DIGITS => k_is)
    (case g_MAX_TICK => k_is)
    (case g_MINUTE => k_is)
    (case n_abs => k_is)
    (case n_bool => k_is)
    (case n_divmod => k_is)
    (case n_enumerate => k_is)
    (case n_int => k_is)
    (case n_isinstance => k_is)
    (case n_len => k_is)
    (case n_max => k_is)
    (case n_min => k_is)
    (case n_range => k_is)
    (case n_str => k_is)
    (case n_sum => k_is)
    (case n_zip => k_is)
    (case nd => k_is)
