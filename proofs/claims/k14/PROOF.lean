import PyProof.Rows.All
import Wide.All
import OpenK.AllK
import Wide.FinOn
import HandS.ForMost
import HandS.ForExc
import HandS.Wide
import HandS.IsInst
import HandS.ExcIs
import KE.KEqSeq
import KE.KEqDeep
import HandS.Lambda
import HandS.Nested
import HandS.Defaults
import HandS.TryMany
import HandS.EndTab
import HandS.Iter
import PySem.Challenge.RW_rangebook_k14_whole_deeds_answered
set_option Elab.async false
set_option linter.all false
set_option maxRecDepth 100000
set_option maxHeartbeats 4000000
namespace RB
open PySem PySem.Spec PyProof.Rows L2
def nAdd : R2 := rI0 fun i j => .int (i + j)
def nSub : R2 := rI0 fun i j => .int (i - j)
def nMul : R2 := rI CMul fun i j => .int (i * j)
def nMulW : R2 := rI CMulW fun i j => .int (i * j)
def nDiv : R2 := rI CDiv fun i j => .int (i / j)
def nMod : R2 := rI (fun _ j => 0 < j) fun i j => .int (i % j)
def nPow : R2 := rI CPow fun i j => .int (i ^ j.toNat)
def nLt : R2 := rI0 fun i j => .bl (decide (i < j))
def nLe : R2 := rI0 fun i j => .bl (decide (i ≤ j))
def nGt : R2 := rI0 fun i j => .bl (decide (j < i))
def nGe : R2 := rI0 fun i j => .bl (decide (j ≤ i))
def nIs : R2 := fun x y H Q => y = .non ∧ Q (.bl (decide (x = .non))) H
def nIsNot : R2 := fun x y H Q => y = .non ∧ Q (.bl (!decide (x = .non))) H
def nNeg : V → Hp → VK → Prop := rU fun i => .int (-i)
def nMax : List V → Hp → VK → Prop := fun xs H Q => ∃ i j, xs = [.int i, .int j] ∧ Q (.int (if j > i then j else i)) H
def nMin : List V → Hp → VK → Prop := fun xs H Q => ∃ i j, xs = [.int i, .int j] ∧ Q (.int (if j < i then j else i)) H
def nLen (K : PySem.W.Frag) : List V → Hp → VK → Prop := fun xs H Q => ∃ p ys, xs = [.ref p] ∧ (SqL K H p ys ∨ SqT K H p ys) ∧ Q (.int ys.length) H
def nList (K : PySem.W.Frag) : List V → Hp → VK → Prop := fun xs H Q => ∃ p ys, xs = [.ref p] ∧ (SqL K H p ys ∨ SqT K H p ys) ∧ ∀ l, H l = none → Q (.ref l) (upd H l (.lst ys))
def nTru (K : PySem.W.Frag) (ta : TE) : TT := fun σ H Q => ta σ H fun x H' => ∃ k, TruV K x H' k ∧ Q k H'
section
variable {X : Cx}
theorem oAdd : OpR X (binaryOp .Add) nAdd := op_add
theorem oSub : OpR X (binaryOp .Sub) nSub := op_sub
theorem oMul : OpR X (binaryOp .Mult) nMul := op_mul
theorem oMulW : OpR X (binaryOp .Mult) nMulW := op_mulW
theorem oDiv : OpR X (binaryOp .FloorDiv) nDiv := op_fdiv
theorem oMod : OpR X (binaryOp .Mod) nMod := op_mod
theorem oPow : OpR X (binaryOp .Pow) nPow := op_pow
theorem oLt : OpR X (compareOp .Lt) nLt := op_lt
theorem oLe : OpR X (compareOp .LtE) nLe := op_le
theorem oGt : OpR X (compareOp .Gt) nGt := op_gt
theorem oGe : OpR X (compareOp .GtE) nGe := op_ge
theorem oIs : OpR X (compareOp .Is) nIs := op_isN
theorem oIsNot : OpR X (compareOp .IsNot) nIsNot := op_notN
theorem oNeg : UnR X (unaryOp .USub) nNeg := un_neg
theorem cMax (hc : X.calm = true) : CallR X (.builtin "max") nMax := call_max2 hc
theorem cMin (hc : X.calm = true) : CallR X (.builtin "min") nMin := call_min2 hc
theorem cLen : CallR X (.builtin "len") (nLen X.K) := call_len_seq
theorem cList : CallR X (.type "list") (nList X.K) := call_list_of
theorem pe_num {x : Str} {pos : Pos} {n : Int} (hg : Gl X x) (h : ∃ t, X.mg x = some (.int n t)) (hd : (x == ("__debug__" : Str)) = false := by decide) : PE X (.Name x pos) (tC (.int n)) := by
  obtain ⟨t, h⟩ := h
  exact pe_glob hg h ⟨t, rfl⟩ hd
end
structure DefAt (K : PySem.W.Frag) (mg : Str → Option Value) (x : Str) (st : Stmt) (ps : List Str) : Prop where
  ex : ∃ f fd, Fun K x x st f fd ∧ mg x = some (.ref f) ∧ Binds K fd ps []
structure Cal (P : Program) (w : World) (K : PySem.W.Frag) (mg : Str → Option Value) (base : Heap) (k : Nat) (x : Str) (ps : List Str) (sp : Sp) : Prop where
  ex : ∃ f fd, FnOk P w K mg base (L2.CX P w) k f fd ps sp ∧ mg x = some (.ref f) ∧ PySem.W.keepIn K (.ref f) = true ∧ Binds K fd ps []
section
variable {P : Program} {w : World} {K : PySem.W.Frag} {mg : Str → Option Value} {base : Heap} {x : Str} {st : Stmt} {ps N : List Str} {sp : Sp} {k : Nat}
theorem DefAt.cal (D : DefAt K mg x st ps) (S : FnScope N ps (defScope st)) (len : ∀ vs H Q E, sp vs H Q E → vs.length = ps.length) (t : XK → TS)
    (der : ∀ (f : Addr) (cdv : Value) (A : Around) (outer : List Env) (s : Shared) (H : Hp) (E : XK), Room k (A.deeper (envOfC x (defScope st) s.heap.objs.size f cdv)) → PSs (cxOf (L2.CX P w) P w K mg base N x (defScope st) f cdv A outer s H E) (defBody st) (t E))
    (pure : ∀ vs H Q E, sp vs H Q E → t E { nx := fun _ H' => Q .non H', rt := Q } (start N vs) H) : Cal P w K mg base (k + 1) x ps sp := by
  obtain ⟨f, fd, F, hm, hb⟩ := D.ex
  exact ⟨f, fd, F.okX S len fun cdv A outer s H vs Q E hr h => ⟨t E, der f cdv A outer s H E hr, pure vs H Q E h⟩, hm, F.kp, hb⟩
theorem Cal.mono {j : Nat} (C : Cal P w K mg base j x ps sp) (h : j ≤ k) : Cal P w K mg base k x ps sp := by
  obtain ⟨f, fd, F, hm, hk, hb⟩ := C.ex
  exact ⟨f, fd, F.mono h, hm, hk, hb⟩
theorem DefAt.none (D : DefAt K mg x st ps) (no : ∀ vs H Q E, ¬ sp vs H Q E) : Cal P w K mg base k x ps sp := by
  obtain ⟨f, fd, F, hm, hb⟩ := D.ex
  exact ⟨f, fd, ⟨fun vs H Q E h => absurd h (no vs H Q E), fun A outer s H args us vs Q E _ _ _ _ h => absurd h (no vs H Q E)⟩, hm, F.kp, hb⟩
end
theorem pass_own {P : Program} {w : World} {K : PySem.W.Frag} {mg : Str → Option Value} {base : Heap} {N : List Str} {q : Str} {sc : Scope} {f : Addr} {cd : Value} {A : Around} {outer : List Env} {s : Shared} {H : Hp} {E : XK} :
    Passes (L2.CX P w) (cxOf (L2.CX P w) P w K mg base N q sc f cd A outer s H E) E :=
  fun pins σ H s e s' I c => passes_call (takes_of rfl rfl rfl rfl) (fun _ _ _ _ z => z) pins σ H s e s' I c
section
variable {X : Cx} {k j : Nat} {ps : List Str} {sp : Sp} {E : XK} {x : Str} {p pos : Pos} {e : Expr} {es : List Expr} {t : TA}
theorem pe_callC (C : Cal X.prog X.w X.K X.mg X.base k x ps sp) (hr : Room j X.A) (hj : k ≤ j) (hg : Gl X x) (hx : Passes (L2.CX X.prog X.w) X E) (ha : PA X (e :: es) t)
    (hdb : (x == ("__debug__" : Str)) = false := by decide) (he : starEach (e :: es) X.env = (false, eval e X.env) :: starEach es X.env := by rfl) (hpl : (backTo pos (starEach es X.env)).any (·.1) = false := by rfl) :
    PE X (.Call (.Name x p) (e :: es) [] pos) (tCall sp [] E t) := by
  obtain ⟨f, fd, F, hm, hk, hb⟩ := C.ex
  exact pe_call F (hr.mono hj) hg hm hk hb .nil hx ha hdb he hpl
end
def tRaise (E : XK) (C : Addr) : TS := fun _ _ H => E (.ref C) none H
structure ExcAt (K : PySem.W.Frag) (mg : Str → Option Value) (x : Str) (C : Addr) : Prop where
  g : mg x = some (.ref C)
  q : PySem.W.excIn K C [.type "ValueError", .type "Exception", .type "BaseException", .type "object"] "ValueError.__new__" = true
  k : PySem.W.keepIn K (.ref C) = true
  b : PySem.W.subIn K (.ref C) (.type "BaseException") = some true
  t : PySem.W.typeIn K (.ref C) = some (.type "type")
theorem ps_raiseC {P : Program} {w : World} {K : PySem.W.Frag} {mg : Str → Option Value} {base : Heap} {N : List Str} {q : Str} {sc : Scope} {f : Addr} {cd : Value} {A : Around} {outer : List Env} {s : Shared} {H : Hp} {E : XK}
    {x m : Str} {C : Addr} {j : Nat} {p p2 pos pos2 : Pos} (T : ExcAt K mg x C) (hg : Gl (cxOf (L2.CX P w) P w K mg base N q sc f cd A outer s H E) x) (hdb : (x == ("__debug__" : Str)) = false := by decide) :
    PS (cxOf (L2.CX P w) P w K mg base N q sc f cd A outer s H E) (.Raise (some (.Call (.Name x p) [.Constant (.str m) j p2] [] pos)) none pos2) (tRaise E C) :=
  ps_raise (W := fun cls d _ H => E cls d H) rfl (takes_of rfl rfl rfl rfl) (pmk_own PySem.F.excBase_ValueError T.q T.g T.k (raises_own T.b T.t) hg hdb)
def tChain3 (r r' r2 : R2) (ta tb tc td : TE) : TE := fun σ H Q => ta σ H fun x H1 => tb σ H1 fun y H2 => r x y H2 fun z H3 => ∃ k, z = .bl k ∧
  (if k = true then tc σ H3 fun w' H4 => r' y w' H4 fun z' H5 => ∃ k', z' = .bl k' ∧ (if k' = true then td σ H5 fun u' H6 => r2 w' u' H6 Q else Q (.bl false) H5) else Q (.bl false) H3)
theorem pt_chain3 {X : Cx} {a b c d : Expr} {ta tb tc td : TE} {pos : Pos} {op op' op2 : CmpOp} {r r' r2 : R2} (ho : OpR X (compareOp op) r) (ho' : OpR X (compareOp op') r') (ho2 : OpR X (compareOp op2) r2) (ha : PE X a ta) (hb : PE X b tb) (hc : PE X c tc) (hd : PE X d td)
    (hm : lastMarks [op, op', op2] [b, c, d] = false := by with_unfolding_all rfl) : PT X (.Compare a [op, op', op2] [b, c, d] pos) (tTest (tChain3 r r' r2 ta tb tc td)) := by
  refine ⟨fun pins s σ H Q I h => ?_⟩
  refine isTrue_chain (thn (ha.run pins s σ H _ I h) fun v s1 ⟨x, H1, I1, r1, q1⟩ => test_link (thn (hb.run pins s1 σ H1 _ I1 q1) fun u s2 ⟨y, H2, I2, r2, q2⟩ =>
    thn (ho pins s2 σ H2 x y v u _ I2 r1 r2 q2) fun d s3 ⟨z, H3, I3, r3, k, e, q3⟩ => ?_)) hm
  subst e
  cases r3
  refine wpAny_truthy_bool ?_
  cases k with
  | false =>
    obtain ⟨k', e', q'⟩ := q3
    cases e'
    exact ite_ff ⟨H3, I3, q'⟩
  | true =>
    refine ite_tt (test_link (thn (hc.run pins s3 σ H3 _ I3 q3) fun w' s4 ⟨z', H4, I4, r4, q4⟩ => thn (ho' pins s4 σ H4 y z' u w' _ I4 r2 r4 q4) fun d' s5 ⟨z2, H5, I5, r5, k2, e2, q5⟩ => ?_))
    subst e2
    cases r5
    refine wpAny_truthy_bool ?_
    cases k2 with
    | false =>
      obtain ⟨k', e', q'⟩ := q5
      cases e'
      exact ite_ff ⟨H5, I5, q'⟩
    | true =>
      refine ite_tt (test_last (thn (hd.run pins s5 σ H5 _ I5 q5) fun w2 s6 ⟨z3, H6, I6, r6, q6⟩ => thn (ho2 pins s6 σ H6 z' z3 w' w2 _ I6 r4 r6 q6) fun d2 s7 ⟨z4, H7, I7, r7, k4, e4, q7⟩ => ?_))
      subst e4
      cases r7
      exact wpAny_truthy_bool ⟨H7, I7, q7⟩
structure CalMk (P : Program) (w : World) (K : PySem.W.Frag) (mg : Str → Option Value) (base : Heap) (k : Nat) (x : Str) (C : Addr) (ps : List Str) (sp : Sp) : Prop where
  ex : ∃ f fd, Mk K C f ∧ FnOk P w K mg base (L2.CX P w) k f fd ps sp ∧ mg x = some (.ref C) ∧ Binds K fd ps []
section
variable {X : Cx} {k j : Nat} {C : Addr} {ps : List Str} {sp : Sp} {E : XK} {x : Str} {p pos : Pos} {e : Expr} {es : List Expr} {t : TA}
theorem pe_makeC (M : CalMk X.prog X.w X.K X.mg X.base k x C ps sp) (hr : Room j X.A) (hj : k + 1 ≤ j) (hg : Gl X x) (hx : Passes (L2.CX X.prog X.w) X E) (ha : PA X (e :: es) t)
    (hdb : (x == ("__debug__" : Str)) = false := by decide) (he : starEach (e :: es) X.env = (false, eval e X.env) :: starEach es X.env := by rfl) (hpl : (backTo pos (starEach es X.env)).any (·.1) = false := by rfl) :
    PE X (.Call (.Name x p) (e :: es) [] pos) (tMake C sp [] E t) := by
  obtain ⟨f, fd, hM, F, hm, hb⟩ := M.ex
  exact pe_make hM F (hr.mono hj) hg hm hb .nil hx ha hdb he hpl
end
def nTry (K : PySem.W.Frag) (c : Value) (E : XK) (tb : WX → TS) (ts : Addr → Value → Option Addr → TS) : TS := fun D σ H => tb (wOnly K c ts (fun cls d _ H => E cls d H) D) D σ H
def nTryAs (K : PySem.W.Frag) (c : Value) (i : Nat) (E : XK) (tb : WX → TS) (ts : Addr → Value → Option Addr → TS) : TS := fun D σ H => tb (wAs K c i ts (fun cls d _ H => E cls d H) D) D σ H
def tKnown (cls : Value) (d : Option Addr) (C : Value) (t : TS) : TS := fun D σ H => cls = C ∧ d = none ∧ t D σ H
section
variable {X : Cx} {k j : Nat} {ps : List Str} {sp : Sp} {E : L2.St → XK} {x : Str} {p pos : Pos} {e : Expr} {es : List Expr} {t : TA}
theorem pe_callSC (C : Cal X.prog X.w X.K X.mg X.base k x ps sp) (hr : Room j X.A) (hj : k ≤ j) (hg : Gl X x) (hx : ∀ σ, PassesAt (L2.CX X.prog X.w) X σ (E σ)) (ha : PA X (e :: es) t)
    (hdb : (x == ("__debug__" : Str)) = false := by decide) (he : starEach (e :: es) X.env = (false, eval e X.env) :: starEach es X.env := by rfl) (hpl : (backTo pos (starEach es X.env)).any (·.1) = false := by rfl) :
    PE X (.Call (.Name x p) (e :: es) [] pos) (tCallS sp E t) := by
  obtain ⟨f, fd, F, hm, hk, hb⟩ := C.ex
  exact pe_callS F (hr.mono hj) hg hm hk hb hx ha hdb he hpl
end
end RB
namespace RB
open PySem PySem.Spec PyProof.Rows L2
section
variable {i j : Int} {H : Hp} {Q : VK} {σ : L2.St} {K : PySem.W.Frag} {x y v : V}
theorem nAdd_ap : nAdd (.int i) (.int j) H Q = Q (.int (i + j)) H := by simp [nAdd, rI0]
theorem nSub_ap : nSub (.int i) (.int j) H Q = Q (.int (i - j)) H := by simp [nSub, rI0]
theorem nLt_ap : nLt (.int i) (.int j) H Q = Q (.bl (decide (i < j))) H := by simp [nLt, rI0]
theorem nLe_ap : nLe (.int i) (.int j) H Q = Q (.bl (decide (i ≤ j))) H := by simp [nLe, rI0]
theorem nGt_ap : nGt (.int i) (.int j) H Q = Q (.bl (decide (j < i))) H := by simp [nGt, rI0]
theorem nGe_ap : nGe (.int i) (.int j) H Q = Q (.bl (decide (j ≤ i))) H := by simp [nGe, rI0]
theorem nMul_ap : nMul (.int i) (.int j) H Q = (CMul i j ∧ Q (.int (i * j)) H) := by simp [nMul, rI]
theorem nMulW_ap : nMulW (.int i) (.int j) H Q = (CMulW i j ∧ Q (.int (i * j)) H) := by simp [nMulW, rI]
theorem nDiv_ap : nDiv (.int i) (.int j) H Q = (CDiv i j ∧ Q (.int (i / j)) H) := by simp [nDiv, rI]
theorem nMod_ap : nMod (.int i) (.int j) H Q = (0 < j ∧ Q (.int (i % j)) H) := by simp [nMod, rI]
theorem nPow_ap : nPow (.int i) (.int j) H Q = (CPow i j ∧ Q (.int (i ^ j.toNat)) H) := by simp [nPow, rI]
theorem nNeg_ap : nNeg (.int i) H Q = Q (.int (-i)) H := by simp [nNeg, rU]
theorem nMax_ap : nMax [.int i, .int j] H Q = Q (.int (max i j)) H := by
  have e : (if j > i then j else i) = max i j := by split <;> omega
  apply propext
  constructor
  · rintro ⟨a, b, h, q⟩
    cases h
    rw [e] at q
    exact q
  · intro q
    exact ⟨i, j, rfl, by rw [e]; exact q⟩
theorem nMin_ap : nMin [.int i, .int j] H Q = Q (.int (min i j)) H := by
  have e : (if j < i then j else i) = min i j := by split <;> omega
  apply propext
  constructor
  · rintro ⟨a, b, h, q⟩
    cases h
    rw [e] at q
    exact q
  · intro q
    exact ⟨i, j, rfl, by rw [e]; exact q⟩
theorem rEq_ap : rEq (.int i) (.int j) H Q = Q (.bl (decide (i = j))) H := by simp [rEq, scal]
theorem rNe_ap : rNe (.int i) (.int j) H Q = Q (.bl (!decide (i = j))) H := by simp [rNe, scal]
theorem nIs_ap : nIs x .non H Q = Q (.bl (decide (x = .non))) H := by simp [nIs]
theorem nIsNot_ap : nIsNot x .non H Q = Q (.bl (!decide (x = .non))) H := by simp [nIsNot]
theorem ex_bl {b : Bool} {p : Bool → Prop} : (∃ x, V.bl b = V.bl x ∧ p x) = p b := by simp
theorem ex_int {b : Int} {p : Int → Prop} : (∃ x, V.int b = V.int x ∧ p x) = p b := by simp
theorem ex_some {a : V} {p : V → Prop} : (∃ x, (some (some a) : Option (Option V)) = some (some x) ∧ p x) = p a := by simp
theorem dec_int_non : decide (V.int i = V.non) = false := rfl
theorem dec_ref_non {p : Addr} : decide (V.ref p = V.non) = false := rfl
theorem dec_non_non : decide (V.non = V.non) = true := rfl
theorem nLen_ap {p : Addr} {ys : List V} (h : SqL K H p ys) (q : Q (.int ys.length) H) : nLen K [.ref p] H Q := ⟨p, ys, rfl, .inl h, q⟩
def nFld (K : PySem.W.Frag) (f : Str) (x : V) (H : Hp) (Q : VK) : Prop := ∃ a C dx fs v, x = V.ref a ∧ H a = some (.ins C dx fs) ∧ Cls K C ∧ NoAttr K C f ∧ fs.lookup f = some v ∧ Q v H
theorem tFld_ap {ta : TE} {f : Str} : tFld K ta f σ H Q = ta σ H fun x H1 => nFld K f x H1 Q := rfl
theorem nFld_ap {f : Str} {a C dx : Addr} {fs : List (Str × V)} (h : H a = some (.ins C dx fs)) (c : Cls K C) (n : NoAttr K C f) (l : fs.lookup f = some v) : nFld K f (.ref a) H Q = Q v H := by
  apply propext
  constructor
  · rintro ⟨a', C', dx', fs', v', e, h', _, _, l', q⟩
    cases e
    rw [h] at h'
    cases h'
    rw [l] at l'
    cases l'
    exact q
  · intro q
    exact ⟨a, C, dx, fs, v, rfl, h, c, n, l, q⟩
theorem isi_int_int : rIsi K [.int i, .ty "int"] H Q = Q (.bl true) H := by
  apply propext
  constructor
  · rintro ⟨x, c, t, u, b, e, k, ty, ki, q⟩
    cases e
    cases k
    cases ty with
    | base h => cases h; cases (show PySem.W.kitOne K (.type "int") (.type "int") = some true from kit_ty (by decide +kernel)).symm.trans ki; exact q
  · intro q
    exact ⟨_, _, _, _, true, rfl, .ty _, .base (.int i), kit_ty (by decide +kernel), q⟩
theorem isi_int_bool : rIsi K [.int i, .ty "bool"] H Q = Q (.bl false) H := by
  apply propext
  constructor
  · rintro ⟨x, c, t, u, b, e, k, ty, ki, q⟩
    cases e
    cases k
    cases ty with
    | base h => cases h; cases (show PySem.W.kitOne K (.type "int") (.type "bool") = some false from kit_ty (by decide +kernel)).symm.trans ki; exact q
  · intro q
    exact ⟨_, _, _, _, false, rfl, .ty _, .base (.int i), kit_ty (by decide +kernel), q⟩
theorem isi_lst {p : Addr} {xs : List V} (h : H p = some (.lst xs)) (q : Q (.bl true) H) : rIsi K [.ref p, .ty "list"] H Q :=
  ⟨_, _, _, _, true, rfl, .ty _, .base (.lst h), kit_ty (by decide +kernel), q⟩
theorem ite_tt' {A B : Prop} : (if true = true then A else B) = A := by simp
theorem ite_ff' {A B : Prop} : (if false = true then A else B) = B := by simp
end
theorem same_new {H : Hp} {p : Addr} (h : H p = none) (o : HO) : Same H (upd H p o) := fun b u q => by rw [upd_ne (ne_of_none q h)]; exact q
def Ins (H H' : Hp) : Prop := ∀ b C dx fs, H b = some (.ins C dx fs) → H' b = some (.ins C dx fs)
theorem Ins.refl (H : Hp) : Ins H H := fun _ _ _ _ h => h
theorem Ins.trans {H H1 H2 : Hp} (a : Ins H H1) (b : Ins H1 H2) : Ins H H2 := fun x C dx fs h => b x C dx fs (a x C dx fs h)
theorem Ins.same {H H' : Hp} (s : Same H H') : Ins H H' := fun b C dx fs h => s b _ h
theorem Ins.lst {H : Hp} {p : Addr} {xs : List V} (h : H p = some (.lst xs)) (ys : List V) : Ins H (upd H p (.lst ys)) := fun b C dx fs q => by
  rw [upd_ne (ne_of q h (by intro z; cases z))]
  exact q
theorem ref_non {p : Addr} : (V.ref p = V.non) = False := by simp
theorem int_non {i : Int} : (V.int i = V.non) = False := by simp
theorem non_ref {p : Addr} : (V.non = V.ref p) = False := by simp
theorem non_int {i : Int} : (V.non = V.int i) = False := by simp
theorem small {n : Nat} (h : n ≤ 1000) : n ≤ sizeLine := Nat.le_of_lt (small1000 h)
theorem size_of {n : Nat} (h : n ≤ 16000000) : n < sizeLine := Nat.lt_of_le_of_lt h (by decide)
theorem wipe_one {σ : L2.St} {i : Nat} {x : V} : wipe ((wipe σ [i]).set i (some x)) [i] = wipe σ [i] := by
  simp [wipe, List.set_set]
theorem take_more {α : Type} {l : List α} {i : Nat} {x : α} (h : l[i]? = some x) : l.take (i + 1) = l.take i ++ [x] := by
  rw [List.take_add_one, h]
  rfl
def nLc (K : PySem.W.Frag) (elt : TE) (i : Nat) (σ : L2.St) (x : V) (H : Hp) (Q : VK) : Prop := tLc (iList K (tC x)) (gName i) tYes elt [i] σ H Q
theorem tLc_ap {K : PySem.W.Frag} {te elt : TE} {i : Nat} {σ : L2.St} {H : Hp} {Q : VK} : tLc (iList K te) (gName i) tYes elt [i] σ H Q = te σ H fun x H1 => nLc K elt i σ x H1 Q := rfl
def nLcR (elt : TE) (i : Nat) (σ : L2.St) (vs : List V) (H : Hp) (Q : VK) : Prop := tLc (iRng1 fun _ H Q => Q vs H) (gName i) tYes elt [i] σ H Q
theorem tLcR_ap {ta : TA} {elt : TE} {i : Nat} {σ : L2.St} {H : Hp} {Q : VK} : tLc (iRng1 ta) (gName i) tYes elt [i] σ H Q = ta σ H fun vs H1 => nLcR elt i σ vs H1 Q := rfl
theorem lc_map {K : PySem.W.Frag} {elt : TE} {i : Nat} {σ : L2.St} {H1 : Hp} {Q : VK} {a : Addr} {xs ys : List V} (hs : SqL K H1 a xs) (hz : xs.length ≤ 16000000) (hl : ys.length = xs.length)
    (he : ∀ (j : Nat) (x y : V) (H' : Hp) (Q' : VK), xs[j]? = some x → ys[j]? = some y → Same H1 H' → Q' y H' → elt ((wipe σ [i]).set i (some x)) H' Q')
    (q : ∀ (D : Addr) (H' : Hp), Same H1 H' → H1 D = none → H' D = some (.lst ys) → Q (.ref D) H') : nLc K elt i σ (.ref a) H1 Q := by
  refine ⟨a, rfl, ⟨_, hs⟩, fun D hD => lc_list (K := K) (a := a) (xs := xs) (fun k H' => Same H1 H' ∧ H' D = some (.lst (ys.take k))) ?_ ?_ ?_ ?_⟩
  · exact ⟨same_new hD _, upd_same⟩
  · rintro k H' _ ⟨s, _⟩
    exact s.seq hs
  · rintro k x H' hx ⟨s, hd⟩
    have hk : k < xs.length := (List.getElem?_eq_some_iff.mp hx).1
    have hy : ys[k]? = some ys[k] := List.getElem?_eq_getElem (by omega)
    refine ⟨wipe_one, ?_⟩
    simp only [tYes, if_true]
    refine he k x _ H' _ hx hy s ⟨_, hd, ?_, ?_, ?_⟩
    · rw [List.length_take]
      exact Nat.lt_of_le_of_lt (Nat.min_le_left _ _) (size_of (by omega))
    · intro b u z
      rw [upd_ne (ne_of_none z hD)]
      exact s b u z
    · rw [upd_same, take_more hy]
  · rintro H' ⟨s, hd⟩
    rw [← hl, List.take_length] at hd
    exact q D H' s hD hd
theorem lc_rng {elt : TE} {i : Nat} {σ : L2.St} {H : Hp} {Q : VK} {n : Int} {ys : List V} (h0 : -(2 ^ 62) ≤ n) (hz : n ≤ 16000000) (hl : ys.length = n.toNat)
    (he : ∀ (j : Nat) (y : V) (H' : Hp) (Q' : VK), (j : Int) < n → ys[j]? = some y → Same H H' → Q' y H' → elt ((wipe σ [i]).set i (some (.int j))) H' Q')
    (q : ∀ (D : Addr) (H' : Hp), Same H H' → H D = none → H' D = some (.lst ys) → Q (.ref D) H') : nLcR elt i σ [.int n] H Q := by
  refine ⟨n, rfl, h0, by omega, fun D hD => lc_range (lo := 0) (n := n.toNat) (fun k H' => Same H H' ∧ H' D = some (.lst (ys.take k))) ?_ ?_ ?_⟩
  · exact ⟨same_new hD _, upd_same⟩
  · rintro k H' hk ⟨s, hd⟩
    have hy : ys[k]? = some ys[k] := List.getElem?_eq_getElem (by omega)
    rw [show (0 : Int) + (k : Int) = (k : Int) by omega]
    refine ⟨wipe_one, ?_⟩
    simp only [tYes, if_true]
    refine he k _ H' _ (by omega) hy s ⟨_, hd, ?_, ?_, ?_⟩
    · rw [List.length_take]
      exact Nat.lt_of_le_of_lt (Nat.min_le_left _ _) (size_of (by omega))
    · intro b u z
      rw [upd_ne (ne_of_none z hD)]
      exact s b u z
    · rw [upd_same, take_more hy]
  · rintro H' ⟨s, hd⟩
    rw [← hl, List.take_length] at hd
    exact q D H' s hD hd
theorem dp_ints {K : PySem.W.Frag} {H : Hp} : ∀ xs : List Int, DpAll K H (xs.map V.int) (xs.map PyData.int)
  | [] => .nil
  | x :: r => .cons (.int x) (dp_ints r)
theorem ty_lst {K : PySem.W.Frag} {H : Hp} {p : Addr} {xs : List V} (h : H p = some (.lst xs)) : tyV K "list" (.ref p) H := Or.inl ⟨rfl, _, SqL.of h⟩
theorem app_ap {H : Hp} {Q : VK} {p : Addr} {xs : List V} {y : V} (h : H p = some (.lst xs)) (hz : xs.length ≤ 16000000) (q : Q .non (upd H p (.lst (xs ++ [y])))) : rAppend (.ref p) [y] H Q :=
  ⟨p, xs, y, rfl, rfl, h, size_of hz, q⟩
theorem ixL_ap {K : PySem.W.Frag} {H : Hp} {Q : VK} {p : Addr} {xs : List V} {j : Nat} {v : V} (h : SqL K H p xs) (hj : xs[j]? = some v) (q : Q v H) : rIxL K (.ref p) (.int j) H Q :=
  ⟨p, xs, j, v, rfl, rfl, h, atI_nat hj, q⟩
theorem ixT_ap {K : PySem.W.Frag} {H : Hp} {Q : VK} {p : Addr} {xs : List V} {j : Nat} {v : V} (h : SqT K H p xs) (hj : xs[j]? = some v) (q : Q v H) : rIxT K (.ref p) (.int j) H Q :=
  ⟨p, xs, j, v, rfl, rfl, h, atI_nat hj, q⟩
theorem list_ap {K : PySem.W.Frag} {H : Hp} {Q : VK} {p : Addr} {ys : List V} (h : SqL K H p ys) (q : ∀ l, H l = none → Q (.ref l) (upd H l (.lst ys))) : nList K [.ref p] H Q := ⟨p, ys, rfl, .inl h, q⟩
def nFor (K : PySem.W.Frag) (i : Nat) (tb : TS) (x : V) (D : Ends) (σ : L2.St) (H : Hp) : Prop := tFor (iList K (tC x)) (gName i) tb D σ H
theorem tFor_ap {K : PySem.W.Frag} {te : TE} {i : Nat} {tb : TS} {D : Ends} {σ : L2.St} {H : Hp} : tFor (iList K te) (gName i) tb D σ H = te σ H fun x H1 => nFor K i tb x D σ H1 := rfl
theorem set_self (σ : L2.St) (i : Nat) : ∃ o, σ = σ.set i o := by
  cases e : σ[i]? with
  | none => exact ⟨none, by rw [List.set_eq_of_length_le (by simpa using e)]⟩
  | some o =>
    obtain ⟨h, e⟩ := List.getElem?_eq_some_iff.mp e
    exact ⟨o, by rw [← e, List.set_getElem_self]⟩
theorem slL_ap {K : PySem.W.Frag} {H : Hp} {Q : VK} {p : Addr} {xs : List V} {lo hi : Option Int} (h : SqL K H p xs) (q : ∀ r, H r = none → Q (.ref r) (upd H r (.lst (cutV xs lo hi)))) : rSlL K (.ref p) lo hi H Q := ⟨p, xs, rfl, h, q⟩
def nForR (i : Nat) (tb : TS) (vs : List V) (D : Ends) (σ : L2.St) (H : Hp) : Prop := tFor (iRng1 fun _ H Q => Q vs H) (gName i) tb D σ H
theorem tForR_ap {ta : TA} {i : Nat} {tb : TS} {D : Ends} {σ : L2.St} {H : Hp} : tFor (iRng1 ta) (gName i) tb D σ H = ta σ H fun vs H1 => nForR i tb vs D σ H1 := rfl
theorem for_rpass {i : Nat} {tb : TS} {D : Ends} {σ : L2.St} {H : Hp} {n : Int} (h0 : -(2 ^ 62) ≤ n) (h1 : n < 2 ^ 62)
    (hb : ∀ (j : Nat) (D' : Ends), (j : Int) < n → D'.rt = D.rt → D'.nx (σ.set i (some (.int j))) H → tb D' (σ.set i (some (.int j))) H) (q : ∀ o, D.nx (σ.set i o) H) : nForR i tb [.int n] D σ H := by
  refine ⟨n, rfl, h0, h1, for_range (lo := 0) (n := n.toNat) (fun _ σ' H' => H' = H ∧ ∃ o, σ' = σ.set i o) ⟨rfl, set_self σ i⟩ ?_ ?_⟩
  · rintro k σ' H' hk ⟨rfl, o, rfl⟩
    rw [show (0 : Int) + (k : Int) = (k : Int) by omega]
    show tb _ ((σ.set i o).set i (some (.int k))) H'
    rw [List.set_set]
    exact hb k _ (by omega) rfl ⟨rfl, _, rfl⟩
  · rintro σ' H' ⟨rfl, o, rfl⟩
    exact q o
def nForR2 (i : Nat) (tb : TS) (vs : List V) (D : Ends) (σ : L2.St) (H : Hp) : Prop := tFor (iRng2 fun _ H Q => Q vs H) (gName i) tb D σ H
theorem tForR2_ap {ta : TA} {i : Nat} {tb : TS} {D : Ends} {σ : L2.St} {H : Hp} : tFor (iRng2 ta) (gName i) tb D σ H = ta σ H fun vs H1 => nForR2 i tb vs D σ H1 := rfl
end RB
namespace RB
open PySem PySem.Spec PyProof.Rows L2 LamX NdefX
def lamAr : Expr → Arguments
  | .Lambda a _ _ _ => a
  | _ => ⟨[], [], none, [], [], none, []⟩
def lamE : Expr → Expr
  | .Lambda _ e _ _ => e
  | e => e
def lamSc : Expr → Scope
  | .Lambda _ _ s _ => s
  | _ => ⟨.function, [], false, false, []⟩
def lamOf : List Stmt → Expr
  | [.Return (some (.Call _ [_, _, _, l] _ _)) _] => l
  | _ => .Constant .none 0 ⟨0, 0, 0, 0⟩
structure LF where
  q : Str
  l : Expr
  cl : List (Str × Addr)
  c : Addr
def LF.nf (F : LF) : NF := ⟨"<lambda>", F.q, lamAr F.l, [], lamSc F.l, F.cl, F.c⟩
def LF.fd (F : LF) (pm ctv : Value) : FuncData := PySem.W.kla_fn "<lambda>" F.q (lamAr F.l) (lamE F.l) (lamSc F.l) F.cl pm (.ref F.c) ctv
structure GL (f : Addr) (F : LF) (fr : List Str) (ws : List (Option V)) (outer : List Env) (s : Shared) (H : Hp) : Prop where
  at_ : ∃ pm ctv : Value, s.heap.get? f = some ({ cls := .type "function", data := .func (F.fd pm ctv) } : Obj)
  free : H f = none
  nofr : f ∉ frs outer
  cells : CellsAt F.cl fr ws s.heap H
  cfr : ∀ y c, F.cl.lookup y = some c → c ∉ frs outer
section
variable {P : Program} {w : World} {K : PySem.W.Frag} {mg : Str → Option Value} {base : Heap} {f : Addr} {F : LF} {ps fr N : List Str} {ws : List (Option V)} {sp : Sp} {k j : Nat}
theorem frs_cons {env : Env} {L : Addr} {outer : List Env} (h : env.frame = some L) {b : Addr} : b ∈ frs (env :: outer) ↔ b = L ∨ b ∈ frs outer := by
  unfold frs
  rw [List.filterMap_cons, h]
  exact List.mem_cons
theorem GL.later {q : Str} {sc : Scope} {g : Addr} {cd : Value} {A : Around} {outer : List Env} {s0 s : Shared} {H0 H : Hp} {E : XK} {pins : List (Addr × Obj)} {σ : L2.St}
    (G : GL f F fr ws outer s0 H0) (I : Inv (cxOf (L2.CX P w) P w K mg base N q sc g cd A outer s0 H0 E) pins σ H s) : GL f F fr ws (cxOf (L2.CX P w) P w K mg base N q sc g cd A outer s0 H0 E).stack s H := by
  obtain ⟨pm, ctv, ho⟩ := G.at_
  have lt0 : ∀ b o, s0.heap.get? b = some o → b ≠ s0.heap.objs.size := fun b o e z => Nat.lt_irrefl _ (z ▸ Heap.lt_size e)
  have un : Un (frs outer) [] H0 H s0.heap s.heap := I.base
  refine ⟨⟨pm, ctv, un.keep f _ ho G.free G.nofr (by simp)⟩, un.free f _ ho G.free (by simp), fun z => ?_, G.cells.later (X := cxOf (L2.CX P w) P w K mg base N q sc g cd A outer s0 H0 E) G.cfr (fun y c _ z => by cases (show c ∈ ([] : List Addr) from z)) I, fun y c e z => ?_⟩
  · rcases (frs_cons (L := s0.heap.objs.size) rfl).mp z with z | z
    · exact lt0 _ _ ho z
    · exact G.nofr z
  · obtain ⟨_, v, o, hc, _⟩ := G.cells.all y c e
    rcases (frs_cons (L := s0.heap.objs.size) rfl).mp z with z | z
    · exact lt0 _ _ hc z
    · exact G.cfr y c e z
structure LOk (P : Program) (w : World) (K : PySem.W.Frag) (mg : Str → Option Value) (base : Heap) (k : Nat) (f : Addr) (F : LF) (fr : List Str) (ws : List (Option V)) (sp : Sp) : Prop where
  run : ∀ (A : Around) (outer : List Env) (s : Shared) (H : Hp) (us : List Value) (vs : List V) (Q : VK) (E : XK), Room k A → Env0 P w K mg base A outer s H → GL f F fr ws outer s H → H F.c = some (CodeO F.c F.q) → Vals vs us → sp vs H Q E →
    codeAny (model P w) A (.call (.ref f) ⟨us, []⟩) (CR (L2.CX P w) outer P w H s Q E) s
theorem LOk.mono (o : LOk P w K mg base j f F fr ws sp) (h : j ≤ k) : LOk P w K mg base k f F fr ws sp := ⟨fun A outer s H us vs Q E hr => o.run A outer s H us vs Q E (hr.mono h)⟩
theorem lok_of (S : NScope N ps fr (lamSc F.l)) (hb : ∀ (pm ctv : Value) (us : List Value), us.length = ps.length → bindArgs (F.fd pm ctv) ⟨us, []⟩ = pure (ps.zip us)) (len : ∀ vs H Q E, sp vs H Q E → vs.length = ps.length) (t : XK → TE)
    (der : ∀ (A : Around) (outer : List Env) (s : Shared) (H : Hp) (E : XK), Room k (A.deeper (envF F.nf f s.heap.objs.size)) → PE (ncx (L2.CX P w) P w K mg base N F.nf f A outer s H E) (lamE F.l) (t E))
    (pure : ∀ vs H Q E, sp vs H Q E → t E (startF N vs ws) H Q) : LOk P w K mg base (k + 1) f F fr ws sp := by
  refine ⟨fun A outer s H us vs Q E hr e0 G hc r hsp => ?_⟩
  have hl := len _ _ _ _ hsp
  have lim : s.heap.NoLimit := e0.mod.nolimit.keeps fun b o e => (e0.bs b o e).1
  obtain ⟨pm, ctv, ho⟩ := G.at_
  refine PySem.W.kla_callFunE hr.depth ho rfl S.co S.gen rfl (codeO_at e0.hok hc) ?_
  rw [hb pm ctv us (by rw [← r.length]; exact hl)]
  refine wpAny_pure (wpAny_newFunctionEnv S.nocell (fun ⟨n, _⟩ hy => S.par n (List.of_mem_zip hy).1) (fun h₁ hns hsb => ⟨lim.fresh _ hsb, ?_⟩) S.kind)
  show codeAny _ _ (.expr (lamE F.l) (envF F.nf f s.heap.objs.size)) _ _
  have kp : ∀ b o, s.heap.get? b = some o → h₁.get? b = some o := fun b o e => hsb.extBut b o (Nat.ne_of_lt (Heap.lt_size e)) (Heap.get?_push_of_some _ e)
  have I : Inv (ncx (L2.CX P w) P w K mg base N F.nf f A outer s H E) [] (startF N vs ws) H { s with heap := h₁, toks := s.toks + (ps.zip us).length } := inv_startN S hr.hd e0 hl r G.cells hns kp
  refine PySem.W.kla_codeExpr (wpAny_mono ((der A outer s H E (hr.deeper _)).run [] _ (startF N vs ws) H Q I (pure _ _ _ _ hsp)) (fun u s' hs => ?_) fun e s' hs => hs)
  obtain ⟨v, H', J, rv, q⟩ := hs
  exact ⟨v, H', J.os, J.bare, J.base, J.hok, rv, q⟩
structure CalG (P : Program) (w : World) (K : PySem.W.Frag) (mg : Str → Option Value) (base : Heap) (k : Nat) (x : Str) (ps : List Str) (g : List Env → Shared → Hp → Prop) (sp : Sp) : Prop where
  ex : ∃ (fa : Addr) (fd : FuncData), (∀ (A : Around) (outer : List Env) (s : Shared) (H : Hp) (args : Args) (us : List Value) (vs : List V) (Q : VK) (E : XK), Room k A → Env0 P w K mg base A outer s H → g outer s H → BindsTo s fd args (ps.zip us) → Vals vs us → sp vs H Q E →
      codeAny (model P w) A (.call (.ref fa) args) (CR (L2.CX P w) outer P w H s Q E) s) ∧ (∀ vs H Q E, sp vs H Q E → vs.length = ps.length) ∧ mg x = some (.ref fa) ∧ PySem.W.keepIn K (.ref fa) = true ∧ Binds K fd ps []
variable {g : List Env → Shared → Hp → Prop} {x : Str} {st : Stmt}
theorem CalG.mono (C : CalG P w K mg base j x ps g sp) (h : j ≤ k) : CalG P w K mg base k x ps g sp := by
  obtain ⟨fa, fd, run, r⟩ := C.ex
  exact ⟨fa, fd, fun A outer s H args us vs Q E hr => run A outer s H args us vs Q E (hr.mono h), r⟩
theorem DefAt.calG (D : DefAt K mg x st ps) (S : FnScope N ps (defScope st)) (len : ∀ vs H Q E, sp vs H Q E → vs.length = ps.length) (t : XK → TS)
    (der : ∀ (fa : Addr) (cdv : Value) (A : Around) (outer : List Env) (s : Shared) (H : Hp) (E : XK), g outer s H → Room k (A.deeper (envOfC x (defScope st) s.heap.objs.size fa cdv)) → PSs (cxOf (L2.CX P w) P w K mg base N x (defScope st) fa cdv A outer s H E) (defBody st) (t E))
    (pure : ∀ vs H Q E, sp vs H Q E → t E { nx := fun _ H' => Q .non H', rt := Q } (start N vs) H) : CalG P w K mg base (k + 1) x ps g sp := by
  obtain ⟨fa, fd, F, hm, hb⟩ := D.ex
  refine ⟨fa, fd, fun A outer s H args us vs Q E hr e0 hg hbt r hsp => ?_, len, hm, F.kp, hb⟩
  obtain ⟨oc, od, kV, doc, pm, an, cdv, ct, osl, rfl, lk, hcd⟩ := F.ex
  exact run_ofS lk hcd S hr e0 hbt r (len _ _ _ _ hsp) fun hr' => ⟨t E, der _ _ _ _ _ _ _ hg hr', pure _ _ _ _ hsp⟩
theorem DefAt.noneG (D : DefAt K mg x st ps) (no : ∀ vs H Q E, ¬ sp vs H Q E) : CalG P w K mg base k x ps g sp := by
  obtain ⟨fa, fd, F, hm, hb⟩ := D.ex
  exact ⟨fa, fd, fun A outer s H args us vs Q E _ _ _ _ _ h => absurd h (no vs H Q E), fun vs H Q E h => absurd h (no vs H Q E), hm, F.kp, hb⟩
end
section
variable {X : Cx} {k j i : Nat} {ps fr : List Str} {sp : Sp} {E : XK} {x : Str} {p pos : Pos} {e e1 e2 e3 l : Expr} {es : List Expr} {t : TA} {t1 t2 t3 : TE} {g : List Env → Shared → Hp → Prop} {f : Addr} {F : LF} {ws : List (Option V)}
theorem run_g {pins : List (Addr × Obj)} {σ : L2.St} {H : Hp} {s : Shared} {Q : VK} {fa : Addr} {fd : FuncData} {us : List Value} {vs : List V}
    (run : ∀ (A : Around) (outer : List Env) (s : Shared) (H : Hp) (args : Args) (us : List Value) (vs : List V) (Q : VK) (E : XK), Room k A → Env0 X.prog X.w X.K X.mg X.base A outer s H → g outer s H → BindsTo s fd args (ps.zip us) → Vals vs us → sp vs H Q E →
      codeAny (model X.prog X.w) A (.call (.ref fa) args) (CR (L2.CX X.prog X.w) outer X.prog X.w H s Q E) s) (len : ∀ vs H Q E, sp vs H Q E → vs.length = ps.length)
    (hb : Binds X.K fd ps []) (hr : Room k X.A) (hx : Passes (L2.CX X.prog X.w) X E) (I : Inv X pins σ H s) (hg : g X.stack s H) (r : Vals vs us) (q : sp vs H Q E) : wpAny (model X.prog X.w) X.A (call (.ref fa) us) (EP X pins σ Q) X.xe s := by
  have hl : us.length = ps.length := by rw [← r.length]; exact len _ _ _ _ q
  have b := hb s us I.kIn (by rw [List.append_nil]; exact hl)
  rw [List.append_nil] at b
  refine wpAny_call (codeAny_mono (run X.A X.stack s H ⟨us, []⟩ us vs Q E hr I.env0 hg b r q) fun r s' hq => ?_)
  cases r with
  | error e => exact hx pins σ H s e s' I hq
  | ok fl =>
    cases fl with
    | ret u => exact I.after hq
    | next => exact False.elim hq
    | brk => exact False.elim hq
    | cont => exact False.elim hq
theorem pe_callG (C : CalG X.prog X.w X.K X.mg X.base k x ps g sp) (hr : Room j X.A) (hj : k ≤ j) (hG : ∀ pins σ H s, Inv X pins σ H s → g X.stack s H) (hg : Gl X x) (hx : Passes (L2.CX X.prog X.w) X E) (ha : PA X (e :: es) t)
    (hdb : (x == ("__debug__" : Str)) = false := by decide) (he : starEach (e :: es) X.env = (false, eval e X.env) :: starEach es X.env := by rfl) (hpl : (backTo pos (starEach es X.env)).any (·.1) = false := by rfl) :
    PE X (.Call (.Name x p) (e :: es) [] pos) (tCall sp [] E t) := by
  obtain ⟨fa, fd, run, len, hm, hk, hb⟩ := C.ex
  refine ⟨fun pins s σ H Q I h => ?_⟩
  refine wpAny_Call_Name_kw (ld_glob I hg hm ?_ hdb)
  refine PySem.W.callWith_K (h₀ := X.base) I.ok.mod.kin hk (thn (ha.run pos pins s σ H _ I h) fun us s1 ⟨vs, H1, I1, r, q⟩ => ⟨I1.kIn, ?_⟩) he hpl
  have q' : sp vs H1 Q E := by
    have z : sp (vs ++ []) H1 Q E := q
    rw [List.append_nil] at z
    exact z
  exact run_g run len hb (hr.mono hj) hx I1 (hG _ _ _ _ I1) r q'
def tCallV (i : Nat) (f : Addr) (F : LF) (sp : Sp) (E : XK) (t : TA) : TE := fun σ H Q => σ[i]? = some (some (.ref f)) ∧ t σ H fun vs H1 => H1 F.c = some (CodeO F.c F.q) ∧ sp vs H1 Q E
theorem pe_callV (L : LOk X.prog X.w X.K X.mg X.base k f F fr ws sp) (hr : Room j X.A) (hj : k ≤ j) (hG : ∀ pins σ H s, Inv X pins σ H s → GL f F fr ws X.stack s H) (hN : X.N[i]? = some x) (hv : Vis X.env.scope x) (hx : Passes (L2.CX X.prog X.w) X E) (ha : PA X (e :: es) t)
    (hd : (x == ("__debug__" : Str)) = false := by decide) (hcd : (x == ("__classdict__" : Str)) = false := by decide)
    (he : starEach (e :: es) X.env = (false, eval e X.env) :: starEach es X.env := by rfl) (hpl : (backTo pos (starEach es X.env)).any (·.1) = false := by rfl) :
    PE X (.Call (.Name x p) (e :: es) [] pos) (tCallV i f F sp E t) := by
  refine ⟨fun pins s σ H Q I h => ?_⟩
  obtain ⟨hs, ht⟩ := h
  refine wpAny_Call_Name_kw (thn ((pe_var (pos := p) hN hv hd hcd).run pins s σ H (fun v H1 => v = .ref f ∧ H1 = H) I ⟨.ref f, hs, rfl, rfl⟩) fun u s1 ⟨v, H1, I1, r1, q1⟩ => ?_)
  obtain ⟨ev, eH⟩ := q1
  subst ev
  rw [eH] at I1
  obtain rfl : u = Value.ref f := r1
  have fat : ∀ {pins σ H s}, Inv X pins σ H s → PySem.W.FnAt f s.heap := fun J => by
    obtain ⟨pm, ctv, z⟩ := (hG _ _ _ _ J).at_
    exact ⟨_, _, _, _, z⟩
  refine PySem.W.callWith_F (first := []) (fat I1) (thn (ha.run pos pins s1 σ H _ I1 ht) fun us s2 ⟨vs, H2, I2, r, h2, q⟩ => ⟨fat I2, ?_⟩) he hpl
  show wpAny _ _ (call (.ref f) us) _ _ _
  refine wpAny_call (codeAny_mono (L.run X.A X.stack s2 H2 us vs Q E (hr.mono hj) I2.env0 (hG _ _ _ _ I2) h2 r q) fun r s' hq => ?_)
  cases r with
  | error e => exact hx pins σ H2 s2 e s' I2 hq
  | ok fl =>
    cases fl with
    | ret u => exact I2.after hq
    | next => exact False.elim hq
    | brk => exact False.elim hq
    | cont => exact False.elim hq
end
structure LF.Is (F : LF) (q : Str) (l : Expr) : Prop where
  q : F.q = q
  l : F.l = l
def tLam3 (T : List (Addr × Str)) (q : Str) (l : Expr) (js : List Nat) (sp : Addr → LF → List (Option V) → Sp) (E : XK) (t1 t2 t3 : TE) : TE := fun σ H Q => t1 σ H fun v1 H1 => t2 σ H1 fun v2 H2 => t3 σ H2 fun v3 H3 => Tabs T H3 ∧
  ∀ (f : Addr) (F : LF) (H4 : Hp), F.Is q l → ExtN H3 H4 → Tabs T H4 → H4 F.c = some (CodeO F.c F.q) → sp f F (js.map (slotAt σ)) [v1, v2, v3, .ref f] H4 Q E
section
variable {X : Cx} {k j : Nat} {ps fr : List Str} {E : XK} {x q : Str} {p pos lpos : Pos} {e1 e2 e3 l : Expr} {t1 t2 t3 : TE} {js : List Nat} {T : List (Addr × Str)} {c Pt : Addr} {sp : Addr → LF → List (Option V) → Sp}
theorem gl_made {pins : List (Addr × Obj)} {σ : L2.St} {H : Hp} {s : Shared} {f : Addr} {F : LF} (I : Inv X pins σ H s) (hfn : ∀ y, X.fn y = true) (ho : ∃ pm ctv : Value, s.heap.get? f = some ({ cls := .type "function", data := .func (F.fd pm ctv) } : Obj)) (hf : H f = none) (hr : f ∉ frs X.stack)
    (hcl : F.cl = cloFrom X.env.cells (lamSc F.l).names []) (hfree : ∀ y ∈ (lamSc F.l).names, y.2 = .free → X.env.scope.names.lookup y.1 = some .cell ∨ X.env.scope.names.lookup y.1 = some .free) (hfr : ∀ y ∈ fr, (y, NameKind.free) ∈ (lamSc F.l).names)
    (hjs : js.map (fun j => X.N[j]?) = fr.map some) : GL f F fr (js.map (slotAt σ)) X.stack s H := by
  have C := Caps.made I.ok hfree hfr hjs
  rw [← hcl] at C
  refine ⟨ho, hf, hr, cells_of I C, fun y c e z => ?_⟩
  have ec := C.sub y c e
  rcases List.mem_cons.mp (I.stkSub _ z) with z | z
  · exact I.cne y c ec z
  · obtain ⟨_, o, ho, _⟩ := I.ok.funs.mem z
    exact Nat.lt_irrefl _ (Nat.lt_of_lt_of_le (Heap.lt_size ho) (I.ok.cab y c (hfn y) ec))
theorem pe_lamcall3 (C : ∀ (f : Addr) (F : LF) (ws : List (Option V)), F.Is q l → CalG X.prog X.w X.K X.mg X.base k x ps (GL f F fr ws) (sp f F ws)) (hr : Room j X.A) (hj : k ≤ j) (hg : Gl X x) (hx : Passes (L2.CX X.prog X.w) X E) (hfn : ∀ y, X.fn y = true)
    (h1 : PE X e1 t1) (h2 : PE X e2 t2) (h3 : PE X e3 t3) (hl : l = .Lambda (lamAr l) (lamE l) (lamSc l) lpos) (TB : TabB X.base X.mg c Pt) (hcode : X.env.code = .ref c) (hq : X.env.qual ++ "<lambda>" = q) (hm : (Pt, q) ∈ T) (hu : ∀ p ∈ T, p.1 = Pt → p.2 = q)
    (hdef : defaultsOf (lamAr l) X.env = ([], [])) (hfree : ∀ y ∈ (lamSc l).names, y.2 = .free → X.env.scope.names.lookup y.1 = some .cell ∨ X.env.scope.names.lookup y.1 = some .free) (hfr : ∀ y ∈ fr, (y, NameKind.free) ∈ (lamSc l).names)
    (hjs : js.map (fun j => X.N[j]?) = fr.map some)
    (hdb : (x == ("__debug__" : Str)) = false := by decide) (he : starEach (e1 :: [e2, e3, l]) X.env = (false, eval e1 X.env) :: starEach [e2, e3, l] X.env := by rfl) (hpl : (backTo pos (starEach [e2, e3, l] X.env)).any (·.1) = false := by rfl)
    (hs : spliced (backTo pos (starEach [e1, e2, e3, l] X.env)) = spliced [(false, eval e1 X.env), (false, eval e2 X.env), (false, eval e3 X.env), (false, eval l X.env)] := by rfl) :
    PE X (.Call (.Name x p) [e1, e2, e3, l] [] pos) (tLam3 T q l js sp E t1 t2 t3) := by
  refine ⟨fun pins s σ H Q I h => ?_⟩
  have nolam : ∀ y ∈ (lamSc l).names, y.2 = .free → ∃ c, X.env.cells.lookup y.1 = some c := fun y hy e => (hfree y hy e).elim (fun z => I.ok.has _ (.inl z)) fun z => I.ok.has _ (.inr z)
  obtain ⟨fa, fd, _, _, hm', hk, _⟩ := (C 0 ⟨q, l, [], 0⟩ [] ⟨rfl, rfl⟩).ex
  refine wpAny_Call_Name_kw (ld_glob I hg hm' ?_ hdb)
  refine PySem.W.callWith_K (h₀ := X.base) I.ok.mod.kin hk ?_ he hpl
  rw [hs]
  refine Calls.spliced_cons (thn (h1.run pins s σ H _ I h) fun u1 s1 ⟨v1, H1, I1, r1, q1⟩ => ?_)
  refine Calls.spliced_cons (thn (h2.run pins s1 σ H1 _ I1 q1) fun u2 s2 ⟨v2, H2, I2, r2, q2⟩ => ?_)
  refine Calls.spliced_cons (thn (h3.run pins s2 σ H2 _ I2 q2) fun u3 s3 ⟨v3, H3, I3, r3, hT, q3⟩ => ?_)
  refine Calls.spliced_cons ?_
  have e0 : eval l X.env = eval (.Lambda (lamAr l) (lamE l) (lamSc l) lpos) X.env := congrArg (fun z => eval z X.env) hl
  rw [e0]
  refine lam_make2 I3 TB hcode (by rw [hq]; exact hm) (by rw [hq]; exact hu) hT hdef nolam fun f c' pm' ctv H4 s4 I4 eN T4 hf hfn4 hfr4 hco => ?_
  have hF : LF.Is ⟨q, l, cloFrom X.env.cells (lamSc l).names [], c'⟩ q l := ⟨rfl, rfl⟩
  obtain ⟨fa2, fd2, run, len, hm2, hk2, hb⟩ := (C f ⟨q, l, cloFrom X.env.cells (lamSc l).names [], c'⟩ (js.map (slotAt σ)) hF).ex
  rw [hm'] at hm2
  cases hm2
  refine Calls.spliced_nil ⟨I4.kIn, ?_⟩
  rw [hq] at hf hco
  have G : GL f ⟨q, l, cloFrom X.env.cells (lamSc l).names [], c'⟩ fr (js.map (slotAt σ)) X.stack s4 H4 := gl_made I4 hfn ⟨pm', ctv, hf⟩ hfn4 hfr4 rfl hfree hfr hjs
  exact run_g run len hb (hr.mono hj) hx I4 G (.cons r1 (.cons r2 (.cons r3 (.cons (show L2.RelV (.ref f) (.ref f) from rfl) .nil)))) (q3 f _ H4 hF eN T4 hco)
end
structure CalD (P : Program) (w : World) (K : PySem.W.Frag) (mg : Str → Option Value) (base : Heap) (k : Nat) (x : Str) (ps : List Str) (dvs : List V) (sp : Sp) : Prop where
  ex : ∃ f fd, FnOk P w K mg base (L2.CX P w) k f fd ps sp ∧ mg x = some (.ref f) ∧ PySem.W.keepIn K (.ref f) = true ∧ Binds K fd ps [] ∧ ∃ ds, Vals dvs ds ∧ Binds K fd ps ds
structure DefAtD (K : PySem.W.Frag) (mg : Str → Option Value) (x : Str) (st : Stmt) (ps : List Str) (dvs : List V) : Prop where
  ex : ∃ f fd, FunD K x x (defArgs st) (defBody st) (defScope st) dvs [] f fd ∧ mg x = some (.ref f) ∧ Binds K fd ps [] ∧ ∃ ds, Vals dvs ds ∧ Binds K fd ps ds
section
variable {P : Program} {w : World} {K : PySem.W.Frag} {mg : Str → Option Value} {base : Heap} {k j : Nat} {x : Str} {ps N : List Str} {dvs : List V} {sp : Sp} {st : Stmt}
theorem CalD.cal (C : CalD P w K mg base k x ps dvs sp) : Cal P w K mg base k x ps sp := by
  obtain ⟨f, fd, F, hm, hk, hb, _⟩ := C.ex
  exact ⟨f, fd, F, hm, hk, hb⟩
theorem CalD.mono (C : CalD P w K mg base j x ps dvs sp) (h : j ≤ k) : CalD P w K mg base k x ps dvs sp := by
  obtain ⟨f, fd, F, r⟩ := C.ex
  exact ⟨f, fd, F.mono h, r⟩
theorem DefAtD.cal (D : DefAtD K mg x st ps dvs) (S : FnScope N ps (defScope st)) (len : ∀ vs H Q E, sp vs H Q E → vs.length = ps.length) (t : XK → TS)
    (der : ∀ (f : Addr) (cdv : Value) (A : Around) (outer : List Env) (s : Shared) (H : Hp) (E : XK), Room k (A.deeper (envOfC x (defScope st) s.heap.objs.size f cdv)) → PSs (cxOf (L2.CX P w) P w K mg base N x (defScope st) f cdv A outer s H E) (defBody st) (t E))
    (pure : ∀ vs H Q E, sp vs H Q E → t E { nx := fun _ H' => Q .non H', rt := Q } (start N vs) H) : CalD P w K mg base (k + 1) x ps dvs sp := by
  obtain ⟨f, fd, F, hm, hb, hd⟩ := D.ex
  exact ⟨f, fd, F.ok S len fun cdv A outer s H vs Q E hr h => ⟨t E, der f cdv A outer s H E hr, pure vs H Q E h⟩, hm, F.kp, hb, hd⟩
theorem DefAtD.none (D : DefAtD K mg x st ps dvs) (no : ∀ vs H Q E, ¬ sp vs H Q E) : CalD P w K mg base k x ps dvs sp := by
  obtain ⟨f, fd, F, hm, hb, hd⟩ := D.ex
  exact ⟨f, fd, ⟨fun vs H Q E h => absurd h (no vs H Q E), fun A outer s H args us vs Q E _ _ _ _ h => absurd h (no vs H Q E)⟩, hm, F.kp, hb, hd⟩
end
section
variable {X : Cx} {k j : Nat} {ps : List Str} {sp : Sp} {E : XK} {x : Str} {p pos : Pos} {e : Expr} {es : List Expr} {t : TA} {dvs : List V}
theorem pe_callD (C : CalD X.prog X.w X.K X.mg X.base k x ps dvs sp) (hr : Room j X.A) (hj : k ≤ j) (hg : Gl X x) (hx : Passes (L2.CX X.prog X.w) X E) (ha : PA X (e :: es) t)
    (hdb : (x == ("__debug__" : Str)) = false := by decide) (he : starEach (e :: es) X.env = (false, eval e X.env) :: starEach es X.env := by rfl) (hpl : (backTo pos (starEach es X.env)).any (·.1) = false := by rfl) :
    PE X (.Call (.Name x p) (e :: es) [] pos) (tCall sp dvs E t) := by
  obtain ⟨f, fd, F, hm, hk, _, ds, hd, hb⟩ := C.ex
  exact pe_call F (hr.mono hj) hg hm hk hb hd hx ha hdb he hpl
end
theorem DefAtD.mk0 {K : PySem.W.Frag} {h : Heap} {mg : Str → Option Value} {x : Str} {st : Stmt} {ps : List Str} {f T : Addr} {od an : Option Addr} {osl : Array (Option Value)} {oc kV doc pm cdv ct : Value} {oT : Obj} {tk : Tok} {nT : Nat}
    (X : K.In h) (G : h.Ns mainGlobals mg) (a : PySem.W.nsIn K mainGlobals x = some (some (.ref f))) (l : K.lookup f = some ⟨oc, od, .func (PySem.W.fnOf x x (defArgs st) (defBody st) (defScope st) (.ref T) kV doc pm an cdv ct), osl⟩)
    (lT : K.lookup T = some oT) (dT : oT.data = .seq #[.int 0 tk] nT) (c : PySem.W.codeIn K cdv x = true) (k : PySem.W.keepIn K (.ref f) = true) (n : Nat) (hn : n + 1 = ps.length)
    (b0 : ∀ (T : Addr) (kV doc pm : Value) (an : Option Addr) (cdv ct : Value) (us its : List Value), us.length = n + 1 → its.length = 1 →
      ∃ k, bindArgs (PySem.W.fnOf x x (defArgs st) (defBody st) (defScope st) (.ref T) kV doc pm an cdv ct) ⟨us, []⟩ = seqItems? (.ref T) >>= k ∧ k (some its.toArray) = pure (ps.zip (us ++ its.drop 1)))
    (b1 : ∀ (T : Addr) (kV doc pm : Value) (an : Option Addr) (cdv ct : Value) (us its : List Value), us.length = n → its.length = 1 →
      ∃ k, bindArgs (PySem.W.fnOf x x (defArgs st) (defBody st) (defScope st) (.ref T) kV doc pm an cdv ct) ⟨us, []⟩ = seqItems? (.ref T) >>= k ∧ k (some its.toArray) = pure (ps.zip (us ++ its.drop 0))) : DefAtD K mg x st ps [.int 0] := by
  have F : FunD K x x (defArgs st) (defBody st) (defScope st) [.int 0] [] f (PySem.W.fnOf x x (defArgs st) (defBody st) (defScope st) (.ref T) kV doc pm an cdv ct) :=
    ⟨⟨oc, od, _, kV, doc, pm, an, cdv, ct, osl, rfl, l, c, .inr ⟨by simp, T, oT, [.int 0 tk], nT, rfl, lT, dT, .cons ⟨tk, rfl⟩ .nil⟩, .inl rfl⟩, k⟩
  refine ⟨f, _, F, PySem.W.mg_of X G a, ?_, ?_⟩
  · obtain ⟨ds, hd, hb⟩ := F.binds1 (ps := ps) (n + 1) 1 (by simp) (by show n + 1 + (1 - 1) = _; omega) b0
    cases hd
    exact hb
  · exact F.binds1 (ps := ps) n 0 (by simp) (by show n + (1 - 0) = _; omega) b1
theorem pass_lam {P : Program} {w : World} {K : PySem.W.Frag} {mg : Str → Option Value} {base : Heap} {N : List Str} {F : NF} {f : Addr} {A : Around} {outer : List Env} {s : Shared} {H : Hp} {E : XK} :
    Passes (L2.CX P w) (ncx (L2.CX P w) P w K mg base N F f A outer s H E) E :=
  fun pins σ H s e s' I c => passes_call (takes_of rfl rfl rfl rfl) (fun _ _ _ _ z => z) pins σ H s e s' I c
def nInt : List V → Hp → VK → Prop := fun xs H Q => (∃ i, xs = [.int i] ∧ Q (.int i) H) ∨ ∃ k, xs = [.bl k] ∧ Q (.int (if k then 1 else 0)) H
theorem cInt {X : Cx} : CallR X (.type "int") nInt := call_int1
end RB
namespace RB
open PySem PySem.Spec PyProof.Rows L2 LamX NdefX
abbrev TM := V → Ends → L2.St → Hp → Prop
def setAll (σ : L2.St) : List Nat → List V → L2.St
  | i :: is, x :: xs => setAll (σ.set i (some x)) is xs
  | _, _ => σ
def tcNil : TM := fun _ D σ H => D.nx σ H
def tcWild (tb : TS) : TM := fun _ D σ H => tb D σ H
def tcSeq (K : PySem.W.Frag) (w : Str) (is : List Nat) (tb : TS) (rest : TM) : TM := fun v D σ H => ∃ a w0 r, v = .ref a ∧ SqT K H a (.str w0 :: r) ∧ (if r.length = is.length ∧ w0 = w then tb D (setAll σ is r) H else rest v D σ H)
def tMatch (te : TE) (tc : TM) : TS := fun D σ H => te σ H fun v H1 => tc v D σ H1
structure MCs (X : Cx) (cs : List MatchCase) (t : TM) : Prop where
  run : ∀ (first : Bool) (pins : List (Addr × Obj)) (s : Shared) (σ : L2.St) (H : Hp) (D : Ends) (v : V) (u : Value), RelV v u → Inv X pins σ H s → t v D σ H → wpAny (model X.prog X.w) X.A (matchCases cs X.env u first) (SP X pins D) X.xe s
inductive Bd (X : Cx) : List (Str × Value) → List Nat → List V → Prop
  | nil : Bd X [] [] []
  | cons {x : Str} {u : Value} {v : V} {i : Nat} {bs is r} (hi : X.N[i]? = some x) (hx : X.env.scope.names.lookup x = some .local) (hv : RelV v u) (h : Bd X bs is r) : Bd X ((x, u) :: bs) (i :: is) (v :: r)
inductive CapsOf (X : Cx) : List Pattern → List Nat → Prop
  | nil : CapsOf X [] []
  | cons {x : Str} {p : Pos} {i : Nat} {ps is} (hi : X.N[i]? = some x) (hx : X.env.scope.names.lookup x = some .local) (h : CapsOf X ps is) : CapsOf X (.MatchAs none (some x) p :: ps) (i :: is)
section
variable {X : Cx}
theorem bd_assign (hN : X.N.Nodup) {pins : List (Addr × Obj)} {H : Hp} {E : Value → Shared → Prop} : ∀ {bs is r}, Bd X bs is r → ∀ {σ : L2.St} {s : Shared} {Q : Unit → Shared → Prop}, Inv X pins σ H s → (∀ s', Inv X pins (setAll σ is r) H s' → Q () s') →
    wpAny (model X.prog X.w) X.A (assignInOrder (bs.map fun (n, _) => bindName X.env n) (bs.map (·.2))) Q E s := by
  intro bs is r h
  induction h with
  | nil => exact fun I q => assignInOrder_nil (q _ I)
  | cons hi hx hv _ ih => exact fun I q => assignInOrder_cons (wpAny_bindName (store_ok I hN hi (.inl hx) hv (fun s' I' => ih I' q) (.inr hx)))
theorem caps_each {E : Value → Shared → Prop} {s : Shared} : ∀ {ps is}, CapsOf X ps is → ∀ {r : List V} {us : List Value} {Q : Option (List (Str × Value)) → Shared → Prop}, Vals r us → r.length = is.length → (∀ bs, Bd X bs is r → Q (some bs) s) →
    wpAny (model X.prog X.w) X.A (matchEach ps X.env us) Q E s := by
  intro ps is h
  induction h with
  | nil =>
    intro r us Q hv hl q
    cases hv with
    | nil => exact wpAny_matchEach_nil (q _ .nil)
    | cons _ _ => cases hl
  | cons hi hx _ ih =>
    intro r us Q hv hl q
    cases hv with
    | nil => cases hl
    | cons h1 h2 =>
      refine wpAny_matchEach_cons (wpAny_matchPattern_Capture ?_)
      exact ih h2 (by simpa using hl) fun bs hb => q _ (.cons hi hx h1 hb)
theorem caps_len : ∀ {ps is}, CapsOf X ps is → ps.length = is.length := by
  intro ps is h
  induction h with
  | nil => rfl
  | cons _ _ _ ih => rw [List.length_cons, List.length_cons, ih]
theorem mc_nil : MCs X [] tcNil := ⟨fun first pins s σ H D v u rv I h => wpAny_matchCases_nil ⟨σ, H, I, h⟩⟩
theorem mc_wild {body : List Stmt} {p : Pos} {tb : TS} {cs : List MatchCase} (hb : PSs X body tb) : MCs X (⟨.MatchAs none none p, none, body⟩ :: cs) (tcWild tb) := ⟨fun first pins s σ H D v u rv I h => by
  refine wpAny_matchCases_cons (wpAny_matchPattern_Capture ?_)
  exact assignInOrder_nil (hb.run pins s σ H D I h)⟩
theorem mc_seq (hN : X.N.Nodup) (hc : X.calm = true) {w : Str} {j : Nat} {ps : List Pattern} {is : List Nat} {body : List Stmt} {p1 p2 p3 : Pos} {tb : TS} {rest : TM} {cs : List MatchCase} (hcap : CapsOf X ps is) (hb : PSs X body tb) (hr : MCs X cs rest)
    (hstar : ((Pattern.MatchValue (.Constant (.str w) j p1) p2) :: ps).findIdx? (·.isStar) = none := by rfl)
    (hwild : (((Pattern.MatchValue (.Constant (.str w) j p1) p2) :: ps).all fun p => p.isWildcard || (p.isStar && p.names.isEmpty)) = false := by rfl) :
    MCs X (⟨.MatchSequence (.MatchValue (.Constant (.str w) j p1) p2 :: ps) p3, none, body⟩ :: cs) (tcSeq X.K w is tb rest) := ⟨fun first pins s σ H D v u rv I h => by
  obtain ⟨a, w0, r, rfl, hS, h⟩ := h
  obtain rfl : u = Value.ref a := rv
  obtain ⟨its, hv, hT, hz⟩ := I.tuple hS
  have hl := hv.length
  have hpl : ps.length = is.length := by
    clear hstar hwild
    exact caps_len hcap
  have hsz : its.toArray.size = r.length + 1 := by simp [← hl]
  have hfit : (its.toArray.size : Int) < 2 ^ 63 := by
    have : its.toArray.size ≤ sizeLine := by rw [List.size_toArray, ← hl]; exact hz
    have : sizeLine < 2 ^ 63 := by decide
    omega
  refine wpAny_matchCases_cons ?_
  by_cases hn : r.length = is.length
  · refine matchSeq_tuple_hit hT hfit (by rw [hsz, List.length_cons]; omega) ?_ hstar hwild
    have I1 := I.tok (s.toks + 1 + 1)
    rw [show (Pattern.MatchValue (.Constant (.str w) j p1) p2 :: ps).length = its.toArray.size by rw [hsz, List.length_cons]; omega]
    refine unpackItems_tuple (I.ok.hd hc) hT fun h' hx' => ?_
    have I2 : Inv X pins σ H { s with heap := h', toks := s.toks + 1 + 1 } := I1.kept fun b o e => hx' b o (Nat.ne_of_lt (Heap.lt_size e)) e
    rw [List.toList_toArray]
    cases hv with
    | @cons _ u0 _ us h0 hr' =>
    refine wpAny_matchEach_cons (wpAny_matchPattern_Value ?_)
    refine thn ((pe_str (X := X) (x := w) (j := j) (pos := p1)).run pins _ σ H (fun v H1 => v = .str w ∧ H1 = H) I2 ⟨rfl, rfl⟩) fun x s1 ⟨v1, H1, I3, r3, e3⟩ => ?_
    obtain ⟨rfl, rfl⟩ := e3
    refine thn (op_eq pins s1 σ H1 (.str w0) (.str w) u0 x (fun v H2 => v = .bl (decide (w0 = w)) ∧ H2 = H1) I3 h0 r3 (by simp [rEq, scal])) fun c s2 ⟨v2, H2, I4, r4, e4⟩ => ?_
    obtain ⟨rfl, rfl⟩ := e4
    cases r4
    refine wpAny_truthy_bool ?_
    by_cases hw : w0 = w
    · rw [if_pos ⟨hn, hw⟩] at h
      rw [if_pos (by simpa using hw)]
      refine caps_each hcap hr' hn fun bs hbd => ?_
      exact bd_assign hN hbd I4 fun s' I5 => hb.run pins s' _ _ D I5 h
    · rw [if_neg (fun z => hw z.2)] at h
      rw [if_neg (by simpa using hw)]
      exact hr.run false pins _ σ _ D _ _ (show L2.RelV (.ref a) (.ref a) from rfl) I4 h
  · refine matchSeq_tuple_miss hT hfit (by rw [hsz, List.length_cons]; omega) ?_ hstar hwild
    rw [if_neg (fun z => hn z.1)] at h
    exact hr.run false pins _ σ _ D _ _ (show L2.RelV (.ref a) (.ref a) from rfl) (I.tok _) h⟩
theorem ps_match {e : Expr} {te : TE} {cs : List MatchCase} {tc : TM} {pos : Pos} (he : PE X e te) (hc : MCs X cs tc) : PS X (.Match e cs pos) (tMatch te tc) := ⟨fun pins s σ H D I h =>
  wpAny_Match (thn (he.run pins s σ H _ I h) fun u s1 ⟨v, H1, I1, r1, q1⟩ => hc.run true pins s1 σ H1 D v u r1 I1 q1)⟩
end
theorem pop_ap {H : Hp} {Q : VK} {p : Addr} {xs : List V} {y : V} (h : H p = some (.lst (xs ++ [y]))) (q : Q y (upd H p (.lst xs))) : rPop (.ref p) [] H Q :=
  ⟨p, _, y, rfl, rfl, h, by simp, by rw [List.dropLast_concat]; exact q⟩
def nTry3 (K : PySem.W.Frag) (c1 c2 c3 : Value) (E : XK) (tb : WX → TS) (t1 t2 t3 : Addr → Value → Option Addr → TS) : TS := fun D σ H => tb (wMany K (fun cls d _ H => E cls d H) D [(c1, t1), (c2, t2), (c3, t3)]) D σ H
theorem ixL_last {K : PySem.W.Frag} {H : Hp} {Q : VK} {p : Addr} {xs : List V} {y : V} (h : SqL K H p (xs ++ [y])) (hz : xs.length ≤ 1000000) (q : Q y H) : rIxL K (.ref p) (.int (-1)) H Q := by
  refine ⟨p, _, -1, y, rfl, rfl, h, ?_, q⟩
  unfold atI ixN
  rw [List.length_append, List.length_singleton, if_neg (by omega), if_pos (by omega)]
  show (xs ++ [y])[(-1 + ((xs.length + 1 : Nat) : Int)).toNat]? = _
  rw [show (-1 + ((xs.length + 1 : Nat) : Int)).toNat = xs.length by omega]
  simp
end RB
namespace RB
open PySem PySem.Spec PyProof.Rows L2
def t_check_stretch (K : PySem.W.Frag) (C_OutOfRow : Addr) (E : XK) : TS :=
  (tIfS (tNot (tTest (tChain3 nLe nLe nLe (tC (.int 0)) (tVar 1) (tVar 2) (tFld K (tVar 0) "many")))) (tRaise E C_OutOfRow) tNext)
def t_Tree_init (K : PySem.W.Frag) (E : XK) : TS :=
  (tSeq (sFld K (tVar 0) (tVar 1) "many")
    (tSeq (sFld K (tVar 0) (tVar 2) "total")
    (tSeq (sFld K (tVar 0) (tVar 3) "least")
    (tSeq (sFld K (tVar 0) (tVar 4) "more")
    (tSeq (sFld K (tVar 0) (tVar 5) "left")
    (sFld K (tVar 0) (tVar 6) "right"))))))
def t_even_tree (C_Tree : Addr) (s_Tree : Sp) (E : XK) : TS :=
  (tRet (tMake C_Tree s_Tree [] E (tCons (tVar 0) (tCons (tOp nMul (tVar 0) (tVar 1)) (tCons (tVar 1) (tCons (tC (.int 0)) (tCons (tC .non) (tCons (tC .non) tNil))))))))
def t_numbers_in (K : PySem.W.Frag) (s_numbers_in : Sp) (E : XK) : TS :=
  (tSeq (tAsg (tCB nMax (tCons (tVar 1) (tCons (tC (.int 0)) tNil))) (gName 1))
    (tSeq (tAsg (tCB nMin (tCons (tVar 2) (tCons (tFld K (tVar 0) "many") tNil))) (gName 2))
    (tSeq (tIfS (tTest (tOp nGe (tVar 1) (tVar 2))) (tRet (tLst tNil)) tNext)
    (tSeq (tIfS (tTest (tOp nIs (tFld K (tVar 0) "left") (tC .non))) (tRet (tOp rRep (tLst (tCons (tOp nAdd (tFld K (tVar 0) "least") (tVar 3)) tNil)) (tOp nSub (tVar 2) (tVar 1)))) tNext)
    (tSeq (tAsg (tFld K (tFld K (tVar 0) "left") "many") (gName 4))
    (tSeq (tAsg (tCall s_numbers_in [] E (tCons (tFld K (tVar 0) "left") (tCons (tVar 1) (tCons (tVar 2) (tCons (tOp nAdd (tVar 3) (tFld K (tVar 0) "more")) tNil))))) (gName 5))
    (tSeq (tAsg (tCall s_numbers_in [] E (tCons (tFld K (tVar 0) "right") (tCons (tOp nSub (tVar 1) (tVar 4)) (tCons (tOp nSub (tVar 2) (tVar 4)) (tCons (tOp nAdd (tVar 3) (tFld K (tVar 0) "more")) tNil))))) (gName 6))
    (tRet (tOp rCat (tVar 5) (tVar 6))))))))))
def t_even (C_NoRow : Addr) (s_even_tree : Sp) (E : XK) : TS :=
  (tSeq (tIfS (tOr (tTest (tOp nLt (tVar 0) (tC (.int 0)))) (tTest (tOp nGt (tVar 0) (tC (.int 1000000000000))))) (tRaise E C_NoRow) tNext)
    (tRet (tCall s_even_tree [] E (tCons (tVar 0) (tCons (tVar 1) tNil)))))
def t_length (K : PySem.W.Frag) (E : XK) : TS :=
  (tRet (tFld K (tVar 0) "many"))
def t_listed (C_TooMany : Addr) (s_check_stretch : Sp) (s_numbers_in : Sp) (E : XK) : TS :=
  (tSeq (tDrop (tCall s_check_stretch [] E (tCons (tVar 0) (tCons (tVar 1) (tCons (tVar 2) tNil)))))
    (tSeq (tIfS (tTest (tOp nGt (tOp nSub (tVar 2) (tVar 1)) (tC (.int 1000)))) (tRaise E C_TooMany) tNext)
    (tRet (tCall s_numbers_in [.int 0] E (tCons (tVar 0) (tCons (tVar 1) (tCons (tVar 2) tNil)))))))
def t_l_whole (K : PySem.W.Frag) (E : XK) : TS :=
  (tRet (tAndV (tCB (rIsi K) (tCons (tVar 0) (tCons (tC (.ty "int")) tNil))) (tNotV (tCB (rIsi K) (tCons (tVar 0) (tCons (tC (.ty "bool")) tNil))))))
def t_l_cell_at (K : PySem.W.Frag) (E : XK) : TS :=
  (tSeq (tIfS (tTest (tOp nLt (tVar 1) (tCB (nLen K) (tCons (tVar 0) tNil)))) (tRet (tOp (rIxL K) (tVar 0) (tVar 1))) tNext)
    (tRet (tC (.int 0))))
def t_l_number_by  (E : XK) : TS :=
  (tSeq (tIfS (tTest (tOp rEq (tOp nMod (tVar 0) (tC (.int 16))) (tC (.int 5)))) (tRet (tOp nMulW (tOp nMulW (tOp nMul (tOp nSub (tOp nMod (tOp nDiv (tVar 0) (tC (.int 16))) (tC (.int 5))) (tC (.int 2))) (tOp nPow (tC (.int 10)) (tC (.int 64)))) (tOp nPow (tC (.int 10)) (tC (.int 64)))) (tOp nPow (tC (.int 10)) (tC (.int 64))))) tNext)
    (tSeq (tIfS (tTest (tOp rEq (tOp nMod (tVar 0) (tC (.int 4))) (tC (.int 1)))) (tRet (tOp nSub (tOp nMod (tOp nDiv (tVar 0) (tC (.int 4))) (tOp nAdd (tOp nMul (tC (.int 2)) (tOp nPow (tC (.int 10)) (tC (.int 60)))) (tC (.int 1)))) (tOp nPow (tC (.int 10)) (tC (.int 60))))) tNext)
    (tSeq (tIfS (tTest (tOp rEq (tOp nMod (tVar 0) (tC (.int 4))) (tC (.int 2)))) (tRet (tOp nSub (tOp nMod (tOp nDiv (tVar 0) (tC (.int 4))) (tC (.int 3))) (tC (.int 1)))) tNext)
    (tRet (tOp nSub (tOp nMod (tOp nDiv (tVar 0) (tC (.int 4))) (tC (.int 41))) (tC (.int 20)))))))
def t_joined (K : PySem.W.Frag) (C_Tree : Addr) (s_Tree : Sp) (E : XK) : TS :=
  (tSeq (tAsg (tOp nAdd (tFld K (tVar 0) "many") (tFld K (tVar 1) "many")) (gName 3))
    (tSeq (tAsg (tOp nAdd (tOp nAdd (tFld K (tVar 0) "total") (tFld K (tVar 1) "total")) (tOp nMul (tVar 3) (tVar 2))) (gName 4))
    (tRet (tMake C_Tree s_Tree [] E (tCons (tVar 3) (tCons (tVar 4) (tCons (tOp nAdd (tCB nMin (tCons (tFld K (tVar 0) "least") (tCons (tFld K (tVar 1) "least") tNil))) (tVar 2)) (tCons (tVar 2) (tCons (tVar 0) (tCons (tVar 1) tNil))))))))))
def t_tree_of (K : PySem.W.Frag) (s_even_tree : Sp) (s_tree_of : Sp) (s_joined : Sp) (E : XK) : TS :=
  (tSeq (tIfS (tNot (nTru K (tVar 0))) (tRet (tCall s_even_tree [] E (tCons (tC (.int 0)) (tCons (tC (.int 0)) tNil)))) tNext)
    (tSeq (tIfS (tTest (tOp rEq (tCB (nLen K) (tCons (tVar 0) tNil)) (tC (.int 1)))) (tRet (tCall s_even_tree [] E (tCons (tC (.int 1)) (tCons (tOp (rIxL K) (tVar 0) (tC (.int 0))) tNil)))) tNext)
    (tSeq (tAsg (tOp nDiv (tCB (nLen K) (tCons (tVar 0) tNil)) (tC (.int 2))) (gName 1))
    (tRet (tCall s_joined [] E (tCons (tCall s_tree_of [] E (tCons (tSl (rSlL K) (tVar 0) tNoPart (tPart (tVar 1))) tNil)) (tCons (tCall s_tree_of [] E (tCons (tSl (rSlL K) (tVar 0) (tPart (tVar 1)) tNoPart) tNil)) (tCons (tC (.int 0)) tNil))))))))
def t_made (K : PySem.W.Frag) (C_NoRow : Addr) (s_tree_of : Sp) (E : XK) : TS :=
  (tSeq (tIfS (tTest (tOp nGt (tCB (nLen K) (tCons (tVar 0) tNil)) (tC (.int 1000)))) (tRaise E C_NoRow) tNext)
    (tRet (tCall s_tree_of [] E (tCons (tVar 0) tNil))))
def t_total_in (K : PySem.W.Frag) (s_total_in : Sp) (E : XK) : TS :=
  (tSeq (tAsg (tCB nMax (tCons (tVar 1) (tCons (tC (.int 0)) tNil))) (gName 1))
    (tSeq (tAsg (tCB nMin (tCons (tVar 2) (tCons (tFld K (tVar 0) "many") tNil))) (gName 2))
    (tSeq (tIfS (tTest (tOp nGe (tVar 1) (tVar 2))) (tRet (tC (.int 0))) tNext)
    (tSeq (tIfS (tTest (tOp rEq (tOp nSub (tVar 2) (tVar 1)) (tFld K (tVar 0) "many"))) (tRet (tFld K (tVar 0) "total")) tNext)
    (tSeq (tIfS (tTest (tOp nIs (tFld K (tVar 0) "left") (tC .non))) (tRet (tOp nMul (tOp nSub (tVar 2) (tVar 1)) (tFld K (tVar 0) "least"))) tNext)
    (tSeq (tAsg (tFld K (tFld K (tVar 0) "left") "many") (gName 3))
    (tSeq (tAsg (tCall s_total_in [] E (tCons (tFld K (tVar 0) "left") (tCons (tVar 1) (tCons (tVar 2) tNil)))) (gName 4))
    (tSeq (tAsg (tCall s_total_in [] E (tCons (tFld K (tVar 0) "right") (tCons (tOp nSub (tVar 1) (tVar 3)) (tCons (tOp nSub (tVar 2) (tVar 3)) tNil)))) (gName 5))
    (tRet (tOp nAdd (tOp nAdd (tVar 4) (tVar 5)) (tOp nMul (tOp nSub (tVar 2) (tVar 1)) (tFld K (tVar 0) "more"))))))))))))
def t_total (s_check_stretch : Sp) (s_total_in : Sp) (E : XK) : TS :=
  (tSeq (tDrop (tCall s_check_stretch [] E (tCons (tVar 0) (tCons (tVar 1) (tCons (tVar 2) tNil)))))
    (tRet (tCall s_total_in [] E (tCons (tVar 0) (tCons (tVar 1) (tCons (tVar 2) tNil))))))
def t_least_in (K : PySem.W.Frag) (s_least_in : Sp) (E : XK) : TS :=
  (tSeq (tAsg (tCB nMax (tCons (tVar 1) (tCons (tC (.int 0)) tNil))) (gName 1))
    (tSeq (tAsg (tCB nMin (tCons (tVar 2) (tCons (tFld K (tVar 0) "many") tNil))) (gName 2))
    (tSeq (tIfS (tTest (tOp nGe (tVar 1) (tVar 2))) (tRet (tC .non)) tNext)
    (tSeq (tIfS (tOr (tTest (tOp nIs (tFld K (tVar 0) "left") (tC .non))) (tTest (tOp rEq (tOp nSub (tVar 2) (tVar 1)) (tFld K (tVar 0) "many")))) (tRet (tFld K (tVar 0) "least")) tNext)
    (tSeq (tAsg (tFld K (tFld K (tVar 0) "left") "many") (gName 3))
    (tSeq (tAsg (tCall s_least_in [] E (tCons (tFld K (tVar 0) "left") (tCons (tVar 1) (tCons (tVar 2) tNil)))) (gName 4))
    (tSeq (tAsg (tCall s_least_in [] E (tCons (tFld K (tVar 0) "right") (tCons (tOp nSub (tVar 1) (tVar 3)) (tCons (tOp nSub (tVar 2) (tVar 3)) tNil)))) (gName 5))
    (tRet (tOp nAdd (tCB (rMin K) (tCons (tLc (iTup K (tTup (tCons (tVar 4) (tCons (tVar 5) tNil)))) (gName 6) (tTest (tOp nIsNot (tVar 6) (tC .non))) (tVar 6) [6]) tNil)) (tFld K (tVar 0) "more"))))))))))
def t_first_in (K : PySem.W.Frag) (s_first_in : Sp) (E : XK) : TS :=
  (tSeq (tIfS (tOr (tTest (tOp nGe (tVar 1) (tFld K (tVar 0) "many"))) (tTest (tOp nGt (tFld K (tVar 0) "least") (tVar 2)))) (tRet (tC .non)) tNext)
    (tSeq (tIfS (tTest (tOp nIs (tFld K (tVar 0) "left") (tC .non))) (tRet (tCB nMax (tCons (tVar 1) (tCons (tC (.int 0)) tNil)))) tNext)
    (tSeq (tAsg (tCall s_first_in [] E (tCons (tFld K (tVar 0) "left") (tCons (tVar 1) (tCons (tOp nSub (tVar 2) (tFld K (tVar 0) "more")) tNil)))) (gName 3))
    (tSeq (tIfS (tTest (tOp nIsNot (tVar 3) (tC .non))) (tRet (tVar 3)) tNext)
    (tSeq (tAsg (tFld K (tFld K (tVar 0) "left") "many") (gName 4))
    (tSeq (tAsg (tCall s_first_in [] E (tCons (tFld K (tVar 0) "right") (tCons (tOp nSub (tVar 1) (tVar 4)) (tCons (tOp nSub (tVar 2) (tFld K (tVar 0) "more")) tNil)))) (gName 3))
    (tRet (tIf (tTest (tOp nIs (tVar 3) (tC .non))) (tC .non) (tOp nAdd (tVar 4) (tVar 3))))))))))
def t_least (C_Nothing : Addr) (s_check_stretch : Sp) (s_least_in : Sp) (E : XK) : TS :=
  (tSeq (tDrop (tCall s_check_stretch [] E (tCons (tVar 0) (tCons (tVar 1) (tCons (tVar 2) tNil)))))
    (tSeq (tIfS (tTest (tOp rEq (tVar 1) (tVar 2))) (tRaise E C_Nothing) tNext)
    (tRet (tCall s_least_in [] E (tCons (tVar 0) (tCons (tVar 1) (tCons (tVar 2) tNil)))))))
def t_place (s_least : Sp) (s_first_in : Sp) (E : XK) : TS :=
  (tRet (tCall s_first_in [] E (tCons (tVar 0) (tCons (tVar 1) (tCons (tCall s_least [] E (tCons (tVar 0) (tCons (tVar 1) (tCons (tVar 2) tNil)))) tNil)))))
def t_first (K : PySem.W.Frag) (s_check_stretch : Sp) (s_first_in : Sp) (E : XK) : TS :=
  (tSeq (tDrop (tCall s_check_stretch [] E (tCons (tVar 0) (tCons (tVar 1) (tCons (tFld K (tVar 0) "many") tNil)))))
    (tRet (tCall s_first_in [] E (tCons (tVar 0) (tCons (tVar 1) (tCons (tVar 2) tNil))))))
def t_raised (K : PySem.W.Frag) (s_even_tree : Sp) (s_joined : Sp) (E : XK) : TS :=
  (tSeq (tIfS (tTest (tOp nIs (tFld K (tVar 0) "left") (tC .non))) (tRet (tCall s_even_tree [] E (tCons (tFld K (tVar 0) "many") (tCons (tOp nAdd (tFld K (tVar 0) "least") (tVar 1)) tNil)))) tNext)
    (tRet (tCall s_joined [] E (tCons (tFld K (tVar 0) "left") (tCons (tFld K (tVar 0) "right") (tCons (tOp nAdd (tFld K (tVar 0) "more") (tVar 1)) tNil))))))
def t_halves (K : PySem.W.Frag) (s_even_tree : Sp) (E : XK) : TS :=
  (tSeq (tIfS (tTest (tOp nIsNot (tFld K (tVar 0) "left") (tC .non))) (tRet (tTup (tCons (tFld K (tVar 0) "left") (tCons (tFld K (tVar 0) "right") tNil)))) tNext)
    (tSeq (tAsg (tOp nDiv (tFld K (tVar 0) "many") (tC (.int 2))) (gName 1))
    (tRet (tTup (tCons (tCall s_even_tree [] E (tCons (tVar 1) (tCons (tFld K (tVar 0) "least") tNil))) (tCons (tCall s_even_tree [] E (tCons (tOp nSub (tFld K (tVar 0) "many") (tVar 1)) (tCons (tFld K (tVar 0) "least") tNil))) tNil))))))
def t_added_in (T_ : List (Addr × Str)) (q_ : Str) (l_ : Expr) (s_changed : Addr → LF → List (Option V) → Sp) (E : XK) : TS :=
  (tRet (tLam3 T_ q_ l_ [3] s_changed E (tVar 0) (tVar 1) (tVar 2)))
def t_lam_added_in (s_raised : Sp) (E : XK) : TE :=
  (tCall s_raised [] E (tCons (tVar 0) (tCons (tVar 2) tNil)))
def t_changed (s_raised : Sp) (s_changed_in : Sp) (E : XK) : TS :=
  (tSeq (tIfS (tTest (tOp rEq (tVar 1) (tVar 2))) (tRet (tCall s_raised [] E (tCons (tVar 0) (tCons (tC (.int 0)) tNil)))) tNext)
    (tRet (tCall s_changed_in [] E (tCons (tVar 0) (tCons (tVar 1) (tCons (tVar 2) (tCons (tC (.int 0)) (tCons (tVar 3) tNil))))))))
def t_changed_in (K : PySem.W.Frag) (s_halves : Sp) (s_joined : Sp) (s_changed_in : Sp) (f_ : Addr) (F_ : LF) (s_change : Sp) (E : XK) : TS :=
  (tSeq (tAsg (tCB nMax (tCons (tVar 1) (tCons (tC (.int 0)) tNil))) (gName 1))
    (tSeq (tAsg (tCB nMin (tCons (tVar 2) (tCons (tFld K (tVar 0) "many") tNil))) (gName 2))
    (tSeq (tIfS (tTest (tOp nGe (tVar 1) (tVar 2))) (tRet (tVar 0)) tNext)
    (tSeq (tIfS (tTest (tOp rEq (tOp nSub (tVar 2) (tVar 1)) (tFld K (tVar 0) "many"))) (tRet (tCallV 4 f_ F_ s_change E (tCons (tVar 0) (tCons (tVar 3) tNil)))) tNext)
    (tSeq (tAsg (tCall s_halves [] E (tCons (tVar 0) tNil)) (gTup K 2 (gCons (gName 5) (gCons (gName 6) gNil))))
    (tSeq (tAsg (tFld K (tVar 5) "many") (gName 7))
    (tSeq (tAsg (tCall s_changed_in [] E (tCons (tVar 5) (tCons (tVar 1) (tCons (tVar 2) (tCons (tOp nAdd (tVar 3) (tFld K (tVar 0) "more")) (tCons (tVar 4) tNil)))))) (gName 8))
    (tSeq (tAsg (tCall s_changed_in [] E (tCons (tVar 6) (tCons (tOp nSub (tVar 1) (tVar 7)) (tCons (tOp nSub (tVar 2) (tVar 7)) (tCons (tOp nAdd (tVar 3) (tFld K (tVar 0) "more")) (tCons (tVar 4) tNil)))))) (gName 9))
    (tRet (tCall s_joined [] E (tCons (tVar 8) (tCons (tVar 9) (tCons (tFld K (tVar 0) "more") tNil)))))))))))))
def t_added (s_check_stretch : Sp) (s_added_in : Sp) (E : XK) : TS :=
  (tSeq (tDrop (tCall s_check_stretch [] E (tCons (tVar 0) (tCons (tVar 1) (tCons (tVar 2) tNil)))))
    (tRet (tCall s_added_in [] E (tCons (tVar 0) (tCons (tVar 1) (tCons (tVar 2) (tCons (tVar 3) tNil)))))))
def t_filled_in (T_ : List (Addr × Str)) (q_ : Str) (l_ : Expr) (s_changed : Addr → LF → List (Option V) → Sp) (E : XK) : TS :=
  (tRet (tLam3 T_ q_ l_ [3] s_changed E (tVar 0) (tVar 1) (tVar 2)))
def t_lam_filled_in (K : PySem.W.Frag) (s_even_tree : Sp) (E : XK) : TE :=
  (tCall s_even_tree [] E (tCons (tFld K (tVar 0) "many") (tCons (tOp nSub (tVar 2) (tVar 1)) tNil)))
def t_filled (s_check_stretch : Sp) (s_filled_in : Sp) (E : XK) : TS :=
  (tSeq (tDrop (tCall s_check_stretch [] E (tCons (tVar 0) (tCons (tVar 1) (tCons (tVar 2) tNil)))))
    (tRet (tCall s_filled_in [] E (tCons (tVar 0) (tCons (tVar 1) (tCons (tVar 2) (tCons (tVar 3) tNil)))))))
def t_l_alike10 (K : PySem.W.Frag) (s_l_whole : Sp) (E : XK) : TS :=
  (tSeq (tIfS (tTest (tOp nIs (tVar 1) (tC .non))) (tRet (tOp nIs (tVar 0) (tC .non))) tNext)
    (tSeq (tIfS (tB (tCB (rIsi K) (tCons (tVar 1) (tCons (tC (.ty "str")) tNil)))) (tRet (tAndV (tCB (rIsi K) (tCons (tVar 0) (tCons (tC (.ty "str")) tNil))) (tOp rEq (tVar 0) (tVar 1)))) tNext)
    (tSeq (tIfS (tNot (tB (tCB (rIsi K) (tCons (tVar 1) (tCons (tC (.ty "list")) tNil))))) (tRet (tAndV (tCall s_l_whole [] E (tCons (tVar 0) tNil)) (tOp rEq (tVar 0) (tVar 1)))) tNext)
    (tSeq (tIfS (tOr (tNot (tB (tCB (rIsi K) (tCons (tVar 0) (tCons (tC (.ty "list")) tNil))))) (tTest (tOp rNe (tCB (nLen K) (tCons (tVar 0) tNil)) (tCB (nLen K) (tCons (tVar 1) tNil))))) (tRet (tC (.bl false))) tNext)
    (tSeq (tFor (iRng1 (tCons (tCB (nLen K) (tCons (tVar 1) tNil)) tNil)) (gName 2)
    (tIfS (tOr (tNot (tB (tCall s_l_whole [] E (tCons (tOp (rIxL K) (tVar 0) (tVar 2)) tNil)))) (tTest (tOp rNe (tOp (rIxL K) (tVar 0) (tVar 2)) (tOp (rIxL K) (tVar 1) (tVar 2))))) (tRet (tC (.bl false))) tNext))
    (tRet (tC (.bl true))))))))
def t_l_cut (K : PySem.W.Frag) (E : XK) : TS :=
  (tSeq (tAsg (tLst tNil) (gName 2))
    (tSeq (tFor (iList K (tVar 0)) (gName 3)
    (tIfS (tAnd (tTest (tOp nLt (tOp (rIxT K) (tVar 3) (tC (.int 0))) (tVar 1))) (tTest (tOp nLt (tVar 1) (tOp (rIxT K) (tVar 3) (tC (.int 1)))))) (tSeq (tDrop (tBM K "list" rAppend (tVar 2) (tCons (tTup (tCons (tOp (rIxT K) (tVar 3) (tC (.int 0))) (tCons (tVar 1) (tCons (tOp (rIxT K) (tVar 3) (tC (.int 2))) tNil)))) tNil)))
    (tDrop (tBM K "list" rAppend (tVar 2) (tCons (tTup (tCons (tVar 1) (tCons (tOp (rIxT K) (tVar 3) (tC (.int 1))) (tCons (tOp (rIxT K) (tVar 3) (tC (.int 2))) tNil)))) tNil)))) (tDrop (tBM K "list" rAppend (tVar 2) (tCons (tVar 3) tNil)))))
    (tRet (tVar 2))))
def t_l_changed11 (K : PySem.W.Frag) (s_l_cut : Sp) (E : XK) : TS :=
  (tSeq (tIfS (tTest (tOp rEq (tVar 2) (tVar 3))) (tRet (tVar 0)) tNext)
    (tSeq (tAsg (tLst tNil) (gName 5))
    (tSeq (tFor (iList K (tCall s_l_cut [] E (tCons (tCall s_l_cut [] E (tCons (tVar 0) (tCons (tVar 2) tNil))) (tCons (tVar 3) tNil)))) (gName 6)
    (tIfS (tOr (tTest (tOp nLt (tOp (rIxT K) (tVar 6) (tC (.int 0))) (tVar 2))) (tTest (tOp nLt (tVar 3) (tOp (rIxT K) (tVar 6) (tC (.int 1)))))) (tDrop (tBM K "list" rAppend (tVar 5) (tCons (tVar 6) tNil))) (tIfS (tTest (tOp rEq (tVar 1) (tC (.str "fill")))) (tDrop (tBM K "list" rAppend (tVar 5) (tCons (tTup (tCons (tOp (rIxT K) (tVar 6) (tC (.int 0))) (tCons (tOp (rIxT K) (tVar 6) (tC (.int 1))) (tCons (tVar 4) tNil)))) tNil))) (tDrop (tBM K "list" rAppend (tVar 5) (tCons (tTup (tCons (tOp (rIxT K) (tVar 6) (tC (.int 0))) (tCons (tOp (rIxT K) (tVar 6) (tC (.int 1))) (tCons (tOp nAdd (tOp (rIxT K) (tVar 6) (tC (.int 2))) (tVar 4)) tNil)))) tNil))))))
    (tRet (tVar 5)))))
def t_l_within (K : PySem.W.Frag) (E : XK) : TS :=
  (tSeq (tAsg (tLst tNil) (gName 3))
    (tSeq (tFor (iList K (tVar 0)) (gName 4)
    (tIfS (tTest (tOp nLt (tCB nMax (tCons (tOp (rIxT K) (tVar 4) (tC (.int 0))) (tCons (tVar 1) tNil))) (tCB nMin (tCons (tOp (rIxT K) (tVar 4) (tC (.int 1))) (tCons (tVar 2) tNil))))) (tDrop (tBM K "list" rAppend (tVar 3) (tCons (tTup (tCons (tCB nMax (tCons (tOp (rIxT K) (tVar 4) (tC (.int 0))) (tCons (tVar 1) tNil))) (tCons (tCB nMin (tCons (tOp (rIxT K) (tVar 4) (tC (.int 1))) (tCons (tVar 2) tNil))) (tCons (tOp (rIxT K) (tVar 4) (tC (.int 2))) tNil)))) tNil))) tNext))
    (tRet (tVar 3))))
def t_l_due11 (K : PySem.W.Frag) (s_l_within : Sp) (E : XK) : TS :=
  (tSeq (tAsg (tCall s_l_within [] E (tCons (tVar 0) (tCons (tVar 2) (tCons (tVar 3) tNil)))) (gName 4))
    (tSeq (tIfS (tTest (tOp rEq (tVar 1) (tC (.str "total")))) (tRet (tCB (rSum K) (tCons (tLc (iList K (tVar 4)) (gName 6) tYes (tOp nMul (tOp nSub (tOp (rIxT K) (tVar 6) (tC (.int 1))) (tOp (rIxT K) (tVar 6) (tC (.int 0)))) (tOp (rIxT K) (tVar 6) (tC (.int 2)))) [6]) tNil))) tNext)
    (tSeq (tIfS (tTest (tOp rEq (tVar 1) (tC (.str "list")))) (tSeq (tAsg (tLst tNil) (gName 5))
    (tSeq (tFor (iList K (tVar 4)) (gName 6)
    (tAsg (tOp rCat (tVar 5) (tOp rRep (tLst (tCons (tOp (rIxT K) (tVar 6) (tC (.int 2))) tNil)) (tOp nSub (tOp (rIxT K) (tVar 6) (tC (.int 1))) (tOp (rIxT K) (tVar 6) (tC (.int 0)))))) (gName 5)))
    (tRet (tVar 5)))) tNext)
    (tSeq (tAsg (tOp (rIxL K) (tVar 4) (tC (.int 0))) (gName 7))
    (tSeq (tFor (iList K (tVar 4)) (gName 6)
    (tIfS (tTest (tOp nLt (tOp (rIxT K) (tVar 6) (tC (.int 2))) (tOp (rIxT K) (tVar 7) (tC (.int 2))))) (tAsg (tVar 6) (gName 7)) tNext))
    (tSeq (tIfS (tTest (tOp rEq (tVar 1) (tC (.str "least")))) (tRet (tOp (rIxT K) (tVar 7) (tC (.int 2)))) tNext)
    (tRet (tOp (rIxT K) (tVar 7) (tC (.int 0))))))))))
def t_l_first11 (K : PySem.W.Frag) (E : XK) : TS :=
  (tSeq (tFor (iList K (tVar 0)) (gName 3)
    (tIfS (tAnd (tTest (tOp nGt (tOp (rIxT K) (tVar 3) (tC (.int 1))) (tVar 1))) (tTest (tOp nLe (tOp (rIxT K) (tVar 3) (tC (.int 2))) (tVar 2)))) (tRet (tCB nMax (tCons (tOp (rIxT K) (tVar 3) (tC (.int 0))) (tCons (tVar 1) tNil)))) tNext))
    (tRet (tC .non)))
def t_answers (K : PySem.W.Frag) (s_answer : Sp) (E : XK) : TS :=
  (tSeq (tAsg (tLst (tCons (tVar 0) tNil)) (gName 2))
    (tSeq (tAsg (tLst tNil) (gName 3))
    (tSeq (tFor (iList K (tVar 1)) (gName 4)
    (tDrop (tBM K "list" rAppend (tVar 3) (tCons (tCall s_answer [] E (tCons (tVar 2) (tCons (tVar 4) tNil))) tNil))))
    (tRet (tVar 3)))))
def t_answer (K : PySem.W.Frag) (C_OutOfRow : Addr) (C_Nothing : Addr) (C_TooMany : Addr) (s_done : Sp) (E : XK) : TS :=
  (nTry3 K (.ref C_OutOfRow) (.ref C_Nothing) (.ref C_TooMany) E (fun W => (tRet (tCallS s_done (WE W) (tCons (tVar 0) (tCons (tVar 1) tNil))))) (fun a cls d => (tRet (tC (.str "out of row")))) (fun a cls d => (tRet (tC (.str "nothing")))) (fun a cls d => (tRet (tC (.str "too many")))))
def t_done (K : PySem.W.Frag) (s_told : Sp) (s_go_back : Sp) (s_filled : Sp) (s_added : Sp) (E : XK) : TS :=
  (tSeq (tMatch (tVar 1) (tcSeq K "add" [2, 3, 4] (tDrop (tBM K "list" rAppend (tVar 0) (tCons (tCall s_added [] E (tCons (tOp (rIxL K) (tVar 0) (tUn nNeg (tC (.int 1)))) (tCons (tVar 2) (tCons (tVar 3) (tCons (tVar 4) tNil))))) tNil)))
    (tcSeq K "fill" [2, 3, 5] (tDrop (tBM K "list" rAppend (tVar 0) (tCons (tCall s_filled [] E (tCons (tOp (rIxL K) (tVar 0) (tUn nNeg (tC (.int 1)))) (tCons (tVar 2) (tCons (tVar 3) (tCons (tVar 5) tNil))))) tNil)))
    (tcSeq K "back" [] (tDrop (tCall s_go_back [] E (tCons (tVar 0) tNil)))
    (tcWild (tRet (tCall s_told [] E (tCons (tOp (rIxL K) (tVar 0) (tUn nNeg (tC (.int 1)))) (tCons (tVar 1) tNil)))))))))
    (tRet (tC .non)))
def t_go_back (K : PySem.W.Frag) (C_Nothing : Addr) (E : XK) : TS :=
  (tSeq (tIfS (tTest (tOp rEq (tCB (nLen K) (tCons (tVar 0) tNil)) (tC (.int 1)))) (tRaise E C_Nothing) tNext)
    (tDrop (tBM0 K "list" rPop (tVar 0))))
def t_told (K : PySem.W.Frag) (s_listed : Sp) (s_first : Sp) (s_place : Sp) (s_least : Sp) (s_total : Sp) (E : XK) : TS :=
  (tMatch (tVar 1) (tcSeq K "total" [2, 3] (tRet (tCall s_total [] E (tCons (tVar 0) (tCons (tVar 2) (tCons (tVar 3) tNil)))))
    (tcSeq K "least" [2, 3] (tRet (tCall s_least [] E (tCons (tVar 0) (tCons (tVar 2) (tCons (tVar 3) tNil)))))
    (tcSeq K "place" [2, 3] (tRet (tCall s_place [] E (tCons (tVar 0) (tCons (tVar 2) (tCons (tVar 3) tNil)))))
    (tcSeq K "first" [2, 4] (tRet (tCall s_first [] E (tCons (tVar 0) (tCons (tVar 2) (tCons (tVar 4) tNil)))))
    (tcSeq K "list" [2, 3] (tRet (tCall s_listed [] E (tCons (tVar 0) (tCons (tVar 2) (tCons (tVar 3) tNil)))))
    tcNil))))))
def t_l_end_by14 (K : PySem.W.Frag) (E : XK) : TS :=
  (tSeq (tAsg (tOp nMod (tOp nMul (tOp nDiv (tVar 0) (tC (.int 4))) (tC (.int 48271))) (tOp nAdd (tVar 2) (tC (.int 1)))) (gName 3))
    (tSeq (tIfS (tTest (tOp rEq (tOp nMod (tVar 0) (tC (.int 4))) (tC (.int 1)))) (tAsg (tOp nSub (tOp nAdd (tOp (rIxT K) (tOp (rIxL K) (tVar 1) (tOp nMod (tOp nDiv (tVar 0) (tC (.int 4))) (tCB (nLen K) (tCons (tVar 1) tNil)))) (tC (.int 0))) (tOp nMod (tOp nDiv (tVar 0) (tC (.int 64))) (tC (.int 3)))) (tC (.int 1))) (gName 3)) tNext)
    (tSeq (tIfS (tTest (tOp rEq (tOp nMod (tVar 0) (tC (.int 4))) (tC (.int 2)))) (tAsg (tOp nAdd (tOp nSub (tOp (rIxT K) (tOp (rIxL K) (tVar 1) (tOp nMod (tOp nDiv (tVar 0) (tC (.int 4))) (tCB (nLen K) (tCons (tVar 1) tNil)))) (tC (.int 1))) (tOp nMod (tOp nDiv (tVar 0) (tC (.int 64))) (tC (.int 3)))) (tC (.int 1))) (gName 3)) tNext)
    (tSeq (tIfS (tTest (tOp rEq (tOp nMod (tVar 0) (tC (.int 36))) (tC (.int 3)))) (tAsg (tOp nSub (tUn nNeg (tC (.int 1))) (tOp nMod (tOp nDiv (tVar 0) (tC (.int 36))) (tC (.int 3)))) (gName 3)) tNext)
    (tSeq (tIfS (tTest (tOp rEq (tOp nMod (tVar 0) (tC (.int 36))) (tC (.int 7)))) (tAsg (tOp nAdd (tOp nAdd (tVar 2) (tC (.int 1))) (tOp nMod (tOp nDiv (tVar 0) (tC (.int 36))) (tC (.int 3)))) (gName 3)) tNext)
    (tRet (tVar 3)))))))
def t_l_answer_5 (K : PySem.W.Frag) (s_l_first11 : Sp) (s_l_due11 : Sp) (E : XK) : TS :=
  (tRet (tCall s_l_due11 [] E (tCons (tVar 0) (tCons (tOp (rIxT K) (tVar 2) (tC (.int 0))) (tCons (tOp (rIxT K) (tVar 2) (tC (.int 1))) (tCons (tOp (rIxT K) (tVar 2) (tC (.int 2))) tNil))))))
def t_l_answer_4 (K : PySem.W.Frag) (s_l_first11 : Sp) (s_l_due11 : Sp) (E : XK) : TS :=
  (tSeq (tIfS (tAnd (tTest (tOp rEq (tOp (rIxT K) (tVar 2) (tC (.int 1))) (tOp (rIxT K) (tVar 2) (tC (.int 2))))) (tOr (tTest (tOp rEq (tOp (rIxT K) (tVar 2) (tC (.int 0))) (tC (.str "least")))) (tTest (tOp rEq (tOp (rIxT K) (tVar 2) (tC (.int 0))) (tC (.str "place")))))) (tRet (tC (.str "nothing"))) tNext)
    (t_l_answer_5 K s_l_first11 s_l_due11 E))
def t_l_answer_3 (K : PySem.W.Frag) (s_l_first11 : Sp) (s_l_due11 : Sp) (E : XK) : TS :=
  (tSeq (tIfS (tAnd (tTest (tOp rEq (tOp (rIxT K) (tVar 2) (tC (.int 0))) (tC (.str "list")))) (tTest (tOp nGt (tOp nSub (tOp (rIxT K) (tVar 2) (tC (.int 2))) (tOp (rIxT K) (tVar 2) (tC (.int 1)))) (tC (.int 1000))))) (tRet (tC (.str "too many"))) tNext)
    (t_l_answer_4 K s_l_first11 s_l_due11 E))
def t_l_answer_2 (K : PySem.W.Frag) (s_l_first11 : Sp) (s_l_due11 : Sp) (E : XK) : TS :=
  (tSeq (tIfS (tOr (tTest (tOp rEq (tOp (rIxT K) (tVar 2) (tC (.int 0))) (tC (.str "add")))) (tTest (tOp rEq (tOp (rIxT K) (tVar 2) (tC (.int 0))) (tC (.str "fill"))))) (tRet (tC .non)) tNext)
    (t_l_answer_3 K s_l_first11 s_l_due11 E))
def t_l_answer_1 (K : PySem.W.Frag) (s_l_first11 : Sp) (s_l_due11 : Sp) (E : XK) : TS :=
  (tSeq (tIfS (tOr (tTest (tOp nLt (tOp (rIxT K) (tVar 2) (tC (.int 1))) (tC (.int 0)))) (tOr (tTest (tOp nLt (tOp (rIxT K) (tVar 2) (tC (.int 2))) (tOp (rIxT K) (tVar 2) (tC (.int 1))))) (tTest (tOp nGt (tOp (rIxT K) (tVar 2) (tC (.int 2))) (tVar 1))))) (tRet (tC (.str "out of row"))) tNext)
    (t_l_answer_2 K s_l_first11 s_l_due11 E))
def t_l_answer (K : PySem.W.Frag) (s_l_first11 : Sp) (s_l_due11 : Sp) (E : XK) : TS :=
  (tSeq (tIfS (tTest (tOp rEq (tOp (rIxT K) (tVar 2) (tC (.int 0))) (tC (.str "first")))) (tSeq (tIfS (tOr (tTest (tOp nLt (tOp (rIxT K) (tVar 2) (tC (.int 1))) (tC (.int 0)))) (tTest (tOp nGt (tOp (rIxT K) (tVar 2) (tC (.int 1))) (tVar 1)))) (tRet (tC (.str "out of row"))) tNext)
    (tRet (tCall s_l_first11 [] E (tCons (tVar 0) (tCons (tOp (rIxT K) (tVar 2) (tC (.int 1))) (tCons (tOp (rIxT K) (tVar 2) (tC (.int 2))) tNil)))))) tNext)
    (t_l_answer_1 K s_l_first11 s_l_due11 E))
def t_l_deed_by (K : PySem.W.Frag) (s_l_end_by14 : Sp) (s_l_number_by : Sp) (s_l_made : Sp) (E : XK) : TS :=
  (tSeq (tAsg (tLst (tCons (tC (.str "add")) (tCons (tC (.str "fill")) (tCons (tC (.str "total")) (tCons (tC (.str "least")) (tCons (tC (.str "place")) (tCons (tC (.str "first")) (tCons (tC (.str "list")) (tCons (tC (.str "back")) (tCons (tC (.str "add")) tNil)))))))))) (gName 4))
    (tSeq (tAsg (tOp (rIxL K) (tVar 4) (tOp nMod (tVar 0) (tC (.int 9)))) (gName 5))
    (tSeq (tIfS (tTest (tOp rEq (tVar 5) (tC (.str "back")))) (tRet (tTup (tCons (tC (.str "back")) tNil))) tNext)
    (tSeq (tAsg (tCall s_l_end_by14 [] E (tCons (tOp nDiv (tVar 0) (tC (.int 9))) (tCons (tVar 2) (tCons (tVar 3) tNil)))) (gName 6))
    (tSeq (tAsg (tCall s_l_number_by [] E (tCons (tVar 1) tNil)) (gName 7))
    (tSeq (tIfS (tTest (tOp rEq (tVar 5) (tC (.str "first")))) (tRet (tTup (tCons (tVar 5) (tCons (tVar 6) (tCons (tOp (rIxL K) (tLst (tCons (tVar 7) (tCons (tOp nSub (tOp nAdd (tOp (rIxT K) (tOp (rIxL K) (tVar 2) (tOp nMod (tOp nDiv (tVar 1) (tC (.int 4))) (tCB (nLen K) (tCons (tVar 2) tNil)))) (tC (.int 2))) (tOp nMod (tVar 1) (tC (.int 3)))) (tC (.int 1))) tNil))) (tOp nMod (tOp nDiv (tVar 1) (tC (.int 7))) (tC (.int 2)))) tNil))))) tNext)
    (tSeq (tAsg (tCall s_l_end_by14 [] E (tCons (tOp nDiv (tVar 1) (tC (.int 9))) (tCons (tVar 2) (tCons (tVar 3) tNil)))) (gName 8))
    (tSeq (tIfS (tAnd (tTest (tOp rEq (tVar 5) (tC (.str "list")))) (tTest (tOp rEq (tOp nMod (tVar 1) (tC (.int 7))) (tC (.int 3))))) (tRet (tTup (tCons (tC (.str "list")) (tCons (tVar 6) (tCons (tOp nAdd (tOp nAdd (tVar 6) (tC (.int 999))) (tOp nMod (tOp nDiv (tVar 1) (tC (.int 7))) (tC (.int 4)))) tNil))))) tNext)
    (tSeq (tIfS (tAnd (tTest (tOp nGt (tOp nMod (tVar 1) (tC (.int 5))) (tC (.int 0)))) (tTest (tOp nLt (tVar 8) (tVar 6)))) (tRet (tCall s_l_made [] E (tCons (tVar 5) (tCons (tVar 8) (tCons (tVar 6) (tCons (tVar 7) tNil)))))) tNext)
    (tRet (tCall s_l_made [] E (tCons (tVar 5) (tCons (tVar 6) (tCons (tVar 8) (tCons (tVar 7) tNil)))))))))))))))
def t_l_made  (E : XK) : TS :=
  (tSeq (tIfS (tOr (tTest (tOp rEq (tVar 0) (tC (.str "add")))) (tTest (tOp rEq (tVar 0) (tC (.str "fill"))))) (tRet (tTup (tCons (tVar 0) (tCons (tVar 1) (tCons (tVar 2) (tCons (tVar 3) tNil)))))) tNext)
    (tRet (tTup (tCons (tVar 0) (tCons (tVar 1) (tCons (tVar 2) tNil))))))
def t_l_run (s_l_cell_at : Sp) (E : XK) : TS :=
  (tSeq (tIfS (tTest (tOp rEq (tOp nMod (tOp nDiv (tCall s_l_cell_at [] E (tCons (tVar 0) (tCons (tC (.int 0)) tNil))) (tC (.int 100))) (tC (.int 4))) (tC (.int 1)))) (tRet (tOp nMod (tOp nDiv (tCall s_l_cell_at [] E (tCons (tVar 0) (tCons (tVar 1) tNil))) (tC (.int 11))) (tC (.int 90)))) tNext)
    (tRet (tC (.int 0))))
def t_l_noted (K : PySem.W.Frag) (s_l_answer : Sp) (s_l_changed11 : Sp) (E : XK) : TS :=
  (tSeq (tDrop (tBM K "list" rAppend (tVar 1) (tCons (tVar 0) tNil)))
    (tIfS (tTest (tOp rEq (tOp (rIxT K) (tVar 0) (tC (.int 0))) (tC (.str "back")))) (tSeq (tDrop (tBM K "list" rAppend (tVar 2) (tCons (tOp (rIxL K) (tLst (tCons (tC (.str "nothing")) (tCons (tC .non) tNil))) (tCB nInt (tCons (tOp nGt (tCB (nLen K) (tCons (tVar 3) tNil)) (tC (.int 1))) tNil))) tNil)))
    (tIfS (tTest (tOp nGt (tCB (nLen K) (tCons (tVar 3) tNil)) (tC (.int 1)))) (tDrop (tBM0 K "list" rPop (tVar 3))) tNext)) (tSeq (tDrop (tBM K "list" rAppend (tVar 2) (tCons (tCall s_l_answer [] E (tCons (tOp (rIxL K) (tVar 3) (tUn nNeg (tC (.int 1)))) (tCons (tVar 4) (tCons (tVar 0) tNil)))) tNil)))
    (tIfS (tAnd (tTest (tOp nIs (tOp (rIxL K) (tVar 2) (tUn nNeg (tC (.int 1)))) (tC .non))) (tOr (tTest (tOp rEq (tOp (rIxT K) (tVar 0) (tC (.int 0))) (tC (.str "add")))) (tTest (tOp rEq (tOp (rIxT K) (tVar 0) (tC (.int 0))) (tC (.str "fill")))))) (tDrop (tBM K "list" rAppend (tVar 3) (tCons (tCall s_l_changed11 [] E (tCons (tOp (rIxL K) (tVar 3) (tUn nNeg (tC (.int 1)))) (tCons (tOp (rIxT K) (tVar 0) (tC (.int 0))) (tCons (tOp (rIxT K) (tVar 0) (tC (.int 1))) (tCons (tOp (rIxT K) (tVar 0) (tC (.int 2))) (tCons (tOp (rIxT K) (tVar 0) (tC (.int 3))) tNil)))))) tNil))) tNext))))
def t_l_start_8 (K : PySem.W.Frag) (s_l_cell_at : Sp) (s_l_number_by : Sp) (s_made : Sp) (s_even : Sp) (s_added : Sp) (s_l_changed11 : Sp) (E : XK) : TS :=
  (tRet (tTup (tCons (tVar 3) (tCons (tVar 4) (tCons (tVar 1) tNil)))))
def t_l_start_7 (K : PySem.W.Frag) (s_l_cell_at : Sp) (s_l_number_by : Sp) (s_made : Sp) (s_even : Sp) (s_added : Sp) (s_l_changed11 : Sp) (E : XK) : TS :=
  (tSeq (tIfS (tTest (tOp rEq (tOp nMod (tCall s_l_cell_at [] E (tCons (tVar 0) (tCons (tC (.int 2)) tNil))) (tC (.int 5))) (tC (.int 1)))) (tSeq (tAsg (tCall s_added [] E (tCons (tVar 3) (tCons (tOp nDiv (tVar 1) (tC (.int 2))) (tCons (tVar 1) (tCons (tC (.int 3)) tNil))))) (gName 3))
    (tAsg (tCall s_l_changed11 [] E (tCons (tVar 4) (tCons (tC (.str "add")) (tCons (tOp nDiv (tVar 1) (tC (.int 2))) (tCons (tVar 1) (tCons (tC (.int 3)) tNil)))))) (gName 4))) tNext)
    (t_l_start_8 K s_l_cell_at s_l_number_by s_made s_even s_added s_l_changed11 E))
def t_l_start_6 (K : PySem.W.Frag) (s_l_cell_at : Sp) (s_l_number_by : Sp) (s_made : Sp) (s_even : Sp) (s_added : Sp) (s_l_changed11 : Sp) (E : XK) : TS :=
  (tSeq (tIfS (tTest (tOp rEq (tOp nMod (tCall s_l_cell_at [] E (tCons (tVar 0) (tCons (tC (.int 0)) tNil))) (tC (.int 3))) (tC (.int 1)))) (tSeq (tAsg (tOp nMod (tOp nDiv (tCall s_l_cell_at [] E (tCons (tVar 0) (tCons (tC (.int 0)) tNil))) (tC (.int 6))) (tOp nAdd (tOp nPow (tC (.int 10)) (tC (.int 12))) (tC (.int 1)))) (gName 1))
    (tSeq (tIfS (tTest (tOp rEq (tOp nMod (tCall s_l_cell_at [] E (tCons (tVar 0) (tCons (tC (.int 0)) tNil))) (tC (.int 6))) (tC (.int 1)))) (tAsg (tOp nMod (tOp nDiv (tCall s_l_cell_at [] E (tCons (tVar 0) (tCons (tC (.int 0)) tNil))) (tC (.int 6))) (tC (.int 2001))) (gName 1)) tNext)
    (tSeq (tAsg (tCall s_even [] E (tCons (tVar 1) (tCons (tCall s_l_number_by [] E (tCons (tCall s_l_cell_at [] E (tCons (tVar 0) (tCons (tC (.int 1)) tNil))) tNil)) tNil))) (gName 3))
    (tAsg (tLst (tCons (tTup (tCons (tC (.int 0)) (tCons (tVar 1) (tCons (tCall s_l_number_by [] E (tCons (tCall s_l_cell_at [] E (tCons (tVar 0) (tCons (tC (.int 1)) tNil))) tNil)) tNil)))) tNil)) (gName 4))))) tNext)
    (t_l_start_7 K s_l_cell_at s_l_number_by s_made s_even s_added s_l_changed11 E))
def t_l_start_5 (K : PySem.W.Frag) (s_l_cell_at : Sp) (s_l_number_by : Sp) (s_made : Sp) (s_even : Sp) (s_added : Sp) (s_l_changed11 : Sp) (E : XK) : TS :=
  (tSeq (tIfS (tTest (tOp rEq (tVar 1) (tC (.int 0)))) (tAsg (tLst (tCons (tTup (tCons (tC (.int 0)) (tCons (tC (.int 0)) (tCons (tC (.int 0)) tNil)))) tNil)) (gName 4)) tNext)
    (t_l_start_6 K s_l_cell_at s_l_number_by s_made s_even s_added s_l_changed11 E))
def t_l_start_4 (K : PySem.W.Frag) (s_l_cell_at : Sp) (s_l_number_by : Sp) (s_made : Sp) (s_even : Sp) (s_added : Sp) (s_l_changed11 : Sp) (E : XK) : TS :=
  (tSeq (tAsg (tLc (iRng1 (tCons (tVar 1) tNil)) (gName 5) tYes (tTup (tCons (tVar 5) (tCons (tOp nAdd (tVar 5) (tC (.int 1))) (tCons (tOp (rIxL K) (tVar 2) (tVar 5)) tNil)))) [5]) (gName 4))
    (t_l_start_5 K s_l_cell_at s_l_number_by s_made s_even s_added s_l_changed11 E))
def t_l_start_3 (K : PySem.W.Frag) (s_l_cell_at : Sp) (s_l_number_by : Sp) (s_made : Sp) (s_even : Sp) (s_added : Sp) (s_l_changed11 : Sp) (E : XK) : TS :=
  (tSeq (tAsg (tCall s_made [] E (tCons (tVar 2) tNil)) (gName 3))
    (t_l_start_4 K s_l_cell_at s_l_number_by s_made s_even s_added s_l_changed11 E))
def t_l_start_2 (K : PySem.W.Frag) (s_l_cell_at : Sp) (s_l_number_by : Sp) (s_made : Sp) (s_even : Sp) (s_added : Sp) (s_l_changed11 : Sp) (E : XK) : TS :=
  (tSeq (tAsg (tLc (iRng1 (tCons (tVar 1) tNil)) (gName 5) tYes (tCall s_l_number_by [] E0 (tCons (tOp nAdd (tCall s_l_cell_at [] E0 (tCons (tVar 0) (tCons (tC (.int 1)) tNil))) (tOp nMul (tVar 5) (tCall s_l_cell_at [] E0 (tCons (tVar 0) (tCons (tC (.int 2)) tNil))))) tNil)) [5]) (gName 2))
    (t_l_start_3 K s_l_cell_at s_l_number_by s_made s_even s_added s_l_changed11 E))
def t_l_start_1 (K : PySem.W.Frag) (s_l_cell_at : Sp) (s_l_number_by : Sp) (s_made : Sp) (s_even : Sp) (s_added : Sp) (s_l_changed11 : Sp) (E : XK) : TS :=
  (tSeq (tIfS (tTest (tOp rEq (tOp nMod (tOp nDiv (tCall s_l_cell_at [] E (tCons (tVar 0) (tCons (tC (.int 0)) tNil))) (tC (.int 60))) (tC (.int 4))) (tC (.int 1)))) (tAsg (tOp nMod (tOp nDiv (tCall s_l_cell_at [] E (tCons (tVar 0) (tCons (tC (.int 0)) tNil))) (tC (.int 240))) (tC (.int 61))) (gName 1)) tNext)
    (t_l_start_2 K s_l_cell_at s_l_number_by s_made s_even s_added s_l_changed11 E))
def t_l_start (K : PySem.W.Frag) (s_l_cell_at : Sp) (s_l_number_by : Sp) (s_made : Sp) (s_even : Sp) (s_added : Sp) (s_l_changed11 : Sp) (E : XK) : TS :=
  (tSeq (tAsg (tOp nMod (tOp nDiv (tCall s_l_cell_at [] E (tCons (tVar 0) (tCons (tC (.int 0)) tNil))) (tC (.int 6))) (tC (.int 10))) (gName 1))
    (t_l_start_1 K s_l_cell_at s_l_number_by s_made s_even s_added s_l_changed11 E))
def t_law_k14_15 (K : PySem.W.Frag) (s_l_start : Sp) (s_l_run : Sp) (s_l_noted : Sp) (s_l_deed_by : Sp) (s_answers : Sp) (s_l_alike10 : Sp) (s_length : Sp) (s_l_due11 : Sp) (s_total : Sp) (E : XK) : TS :=
  (tRet (tCall s_l_alike10 [] E (tCons (tCall s_total [] E (tCons (tVar 2) (tCons (tC (.int 0)) (tCons (tVar 4) tNil)))) (tCons (tCall s_l_due11 [] E (tCons (tVar 3) (tCons (tC (.str "total")) (tCons (tC (.int 0)) (tCons (tVar 4) tNil))))) tNil))))
def t_law_k14_14 (K : PySem.W.Frag) (s_l_start : Sp) (s_l_run : Sp) (s_l_noted : Sp) (s_l_deed_by : Sp) (s_answers : Sp) (s_l_alike10 : Sp) (s_length : Sp) (s_l_due11 : Sp) (s_total : Sp) (E : XK) : TS :=
  (tSeq (tIfS (tNot (tB (tCall s_l_alike10 [] E (tCons (tCall s_length [] E (tCons (tVar 2) tNil)) (tCons (tVar 4) tNil))))) (tRet (tC (.bl false))) tNext)
    (t_law_k14_15 K s_l_start s_l_run s_l_noted s_l_deed_by s_answers s_l_alike10 s_length s_l_due11 s_total E))
def t_law_k14_13 (K : PySem.W.Frag) (s_l_start : Sp) (s_l_run : Sp) (s_l_noted : Sp) (s_l_deed_by : Sp) (s_answers : Sp) (s_l_alike10 : Sp) (s_length : Sp) (s_l_due11 : Sp) (s_total : Sp) (E : XK) : TS :=
  (tSeq (tIfS (tTest (tOp (rNeD K) (tLc (iList K (tVar 10)) (gName 13) (tTest (tOp (rNeD K) (tOp (rIxT K) (tVar 13) (tC (.int 0))) (tOp (rIxT K) (tVar 13) (tC (.int 1))))) (tVar 13) [13]) (tLst tNil))) (tRet (tC (.bl false))) tNext)
    (t_law_k14_14 K s_l_start s_l_run s_l_noted s_l_deed_by s_answers s_l_alike10 s_length s_l_due11 s_total E))
def t_law_k14_12b1 (K : PySem.W.Frag) (s_l_start : Sp) (s_l_run : Sp) (s_l_noted : Sp) (s_l_deed_by : Sp) (s_answers : Sp) (s_l_alike10 : Sp) (s_length : Sp) (s_l_due11 : Sp) (s_total : Sp) (E : XK) : TS :=
  (tIfS (tB (tCB (rIsi K) (tCons (tOp (rIxL K) (tVar 12) (tVar 8)) (tCons (tC (.ty "list")) tNil)))) (tSeq (tDrop (tBM K "list" rAppend (tOp (rIxL K) (tVar 12) (tVar 8)) (tCons (tVar 11) tNil)))
    (tDrop (tBM K "list" rAppend (tVar 10) (tCons (tTup (tCons (tOp (rIxL K) (tVar 12) (tVar 8)) (tCons (tCB (nList K) (tCons (tOp (rIxL K) (tVar 12) (tVar 8)) tNil)) tNil))) tNil)))) tNext)
def t_law_k14_12b0 (K : PySem.W.Frag) (s_l_start : Sp) (s_l_run : Sp) (s_l_noted : Sp) (s_l_deed_by : Sp) (s_answers : Sp) (s_l_alike10 : Sp) (s_length : Sp) (s_l_due11 : Sp) (s_total : Sp) (E : XK) : TS :=
  (tSeq (tIfS (tNot (tB (tCall s_l_alike10 [] E (tCons (tOp (rIxL K) (tVar 12) (tVar 8)) (tCons (tOp (rIxL K) (tVar 7) (tVar 8)) tNil))))) (tRet (tC (.bl false))) tNext)
    (t_law_k14_12b1 K s_l_start s_l_run s_l_noted s_l_deed_by s_answers s_l_alike10 s_length s_l_due11 s_total E))
def t_law_k14_12 (K : PySem.W.Frag) (s_l_start : Sp) (s_l_run : Sp) (s_l_noted : Sp) (s_l_deed_by : Sp) (s_answers : Sp) (s_l_alike10 : Sp) (s_length : Sp) (s_l_due11 : Sp) (s_total : Sp) (E : XK) : TS :=
  (tSeq (tFor (iList K (tLst (tCons (tC (.int 0)) (tCons (tC (.int 1)) tNil)))) (gName 11)
    (tSeq (tAsg (tCall s_answers [] E (tCons (tVar 2) (tCons (tVar 9) tNil))) (gName 12))
    (tSeq (tIfS (tOr (tNot (tB (tCB (rIsi K) (tCons (tVar 12) (tCons (tC (.ty "list")) tNil))))) (tOr (tTest (tOp rNe (tCB (nLen K) (tCons (tVar 12) tNil)) (tCB (nLen K) (tCons (tVar 7) tNil)))) (tTest (tOp (rNeD K) (tVar 9) (tVar 6))))) (tRet (tC (.bl false))) tNext)
    (tSeq (tFor (iRng1 (tCons (tCB (nLen K) (tCons (tVar 7) tNil)) tNil)) (gName 8)
    (t_law_k14_12b0 K s_l_start s_l_run s_l_noted s_l_deed_by s_answers s_l_alike10 s_length s_l_due11 s_total E))
    (tSeq (tDrop (tBM K "list" rAppend (tVar 12) (tCons (tVar 11) tNil)))
    (tDrop (tBM K "list" rAppend (tVar 10) (tCons (tTup (tCons (tVar 12) (tCons (tCB (nList K) (tCons (tVar 12) tNil)) tNil))) tNil))))))))
    (t_law_k14_13 K s_l_start s_l_run s_l_noted s_l_deed_by s_answers s_l_alike10 s_length s_l_due11 s_total E))
def t_law_k14_11 (K : PySem.W.Frag) (s_l_start : Sp) (s_l_run : Sp) (s_l_noted : Sp) (s_l_deed_by : Sp) (s_answers : Sp) (s_l_alike10 : Sp) (s_length : Sp) (s_l_due11 : Sp) (s_total : Sp) (E : XK) : TS :=
  (tSeq (tAsg (tLst tNil) (gName 10))
    (t_law_k14_12 K s_l_start s_l_run s_l_noted s_l_deed_by s_answers s_l_alike10 s_length s_l_due11 s_total E))
def t_law_k14_10 (K : PySem.W.Frag) (s_l_start : Sp) (s_l_run : Sp) (s_l_noted : Sp) (s_l_deed_by : Sp) (s_answers : Sp) (s_l_alike10 : Sp) (s_length : Sp) (s_l_due11 : Sp) (s_total : Sp) (E : XK) : TS :=
  (tSeq (tAsg (tCB (nList K) (tCons (tVar 6) tNil)) (gName 9))
    (t_law_k14_11 K s_l_start s_l_run s_l_noted s_l_deed_by s_answers s_l_alike10 s_length s_l_due11 s_total E))
def t_law_k14_9b1 (K : PySem.W.Frag) (s_l_start : Sp) (s_l_run : Sp) (s_l_noted : Sp) (s_l_deed_by : Sp) (s_answers : Sp) (s_l_alike10 : Sp) (s_length : Sp) (s_l_due11 : Sp) (s_total : Sp) (E : XK) : TS :=
  (tDrop (tCall s_l_noted [] E (tCons (tTup (tCons (tC (.str "total")) (tCons (tC (.int 0)) (tCons (tVar 4) tNil)))) (tCons (tVar 6) (tCons (tVar 7) (tCons (tVar 5) (tCons (tVar 4) tNil)))))))
def t_law_k14_9b0 (K : PySem.W.Frag) (s_l_start : Sp) (s_l_run : Sp) (s_l_noted : Sp) (s_l_deed_by : Sp) (s_answers : Sp) (s_l_alike10 : Sp) (s_length : Sp) (s_l_due11 : Sp) (s_total : Sp) (E : XK) : TS :=
  (tSeq (tDrop (tCall s_l_noted [] E (tCons (tTup (tCons (tC (.str "back")) tNil)) (tCons (tVar 6) (tCons (tVar 7) (tCons (tVar 5) (tCons (tVar 4) tNil)))))))
    (t_law_k14_9b1 K s_l_start s_l_run s_l_noted s_l_deed_by s_answers s_l_alike10 s_length s_l_due11 s_total E))
def t_law_k14_9 (K : PySem.W.Frag) (s_l_start : Sp) (s_l_run : Sp) (s_l_noted : Sp) (s_l_deed_by : Sp) (s_answers : Sp) (s_l_alike10 : Sp) (s_length : Sp) (s_l_due11 : Sp) (s_total : Sp) (E : XK) : TS :=
  (tSeq (tFor (iRng1 (tCons (tCall s_l_run [] E (tCons (tVar 0) (tCons (tC (.int 2)) tNil))) tNil)) (gName 8)
    (t_law_k14_9b0 K s_l_start s_l_run s_l_noted s_l_deed_by s_answers s_l_alike10 s_length s_l_due11 s_total E))
    (t_law_k14_10 K s_l_start s_l_run s_l_noted s_l_deed_by s_answers s_l_alike10 s_length s_l_due11 s_total E))
def t_law_k14_8b0 (K : PySem.W.Frag) (s_l_start : Sp) (s_l_run : Sp) (s_l_noted : Sp) (s_l_deed_by : Sp) (s_answers : Sp) (s_l_alike10 : Sp) (s_length : Sp) (s_l_due11 : Sp) (s_total : Sp) (E : XK) : TS :=
  (tDrop (tCall s_l_noted [] E (tCons (tCall s_l_deed_by [] E (tCons (tOp (rIxL K) (tVar 0) (tVar 8)) (tCons (tOp (rIxL K) (tVar 0) (tOp nAdd (tVar 8) (tC (.int 1)))) (tCons (tOp (rIxL K) (tVar 5) (tUn nNeg (tC (.int 1)))) (tCons (tVar 4) tNil))))) (tCons (tVar 6) (tCons (tVar 7) (tCons (tVar 5) (tCons (tVar 4) tNil)))))))
def t_law_k14_8 (K : PySem.W.Frag) (s_l_start : Sp) (s_l_run : Sp) (s_l_noted : Sp) (s_l_deed_by : Sp) (s_answers : Sp) (s_l_alike10 : Sp) (s_length : Sp) (s_l_due11 : Sp) (s_total : Sp) (E : XK) : TS :=
  (tSeq (tFor (iRng3 (tCons (tC (.int 3)) (tCons (tOp nSub (tCB nMin (tCons (tCB (nLen K) (tCons (tVar 0) tNil)) (tCons (tC (.int 63)) tNil))) (tC (.int 1))) (tCons (tC (.int 2)) tNil)))) (gName 8)
    (t_law_k14_8b0 K s_l_start s_l_run s_l_noted s_l_deed_by s_answers s_l_alike10 s_length s_l_due11 s_total E))
    (t_law_k14_9 K s_l_start s_l_run s_l_noted s_l_deed_by s_answers s_l_alike10 s_length s_l_due11 s_total E))
def t_law_k14_7b0 (K : PySem.W.Frag) (s_l_start : Sp) (s_l_run : Sp) (s_l_noted : Sp) (s_l_deed_by : Sp) (s_answers : Sp) (s_l_alike10 : Sp) (s_length : Sp) (s_l_due11 : Sp) (s_total : Sp) (E : XK) : TS :=
  (tDrop (tCall s_l_noted [] E (tCons (tTup (tCons (tC (.str "add")) (tCons (tOp nMul (tOp nDiv (tVar 4) (tC (.int 2))) (tOp nMod (tVar 8) (tC (.int 2)))) (tCons (tVar 4) (tCons (tOp nAdd (tVar 8) (tC (.int 1))) tNil))))) (tCons (tVar 6) (tCons (tVar 7) (tCons (tVar 5) (tCons (tVar 4) tNil)))))))
def t_law_k14_7 (K : PySem.W.Frag) (s_l_start : Sp) (s_l_run : Sp) (s_l_noted : Sp) (s_l_deed_by : Sp) (s_answers : Sp) (s_l_alike10 : Sp) (s_length : Sp) (s_l_due11 : Sp) (s_total : Sp) (E : XK) : TS :=
  (tSeq (tFor (iRng1 (tCons (tCall s_l_run [] E (tCons (tVar 0) (tCons (tC (.int 1)) tNil))) tNil)) (gName 8)
    (t_law_k14_7b0 K s_l_start s_l_run s_l_noted s_l_deed_by s_answers s_l_alike10 s_length s_l_due11 s_total E))
    (t_law_k14_8 K s_l_start s_l_run s_l_noted s_l_deed_by s_answers s_l_alike10 s_length s_l_due11 s_total E))
def t_law_k14_6 (K : PySem.W.Frag) (s_l_start : Sp) (s_l_run : Sp) (s_l_noted : Sp) (s_l_deed_by : Sp) (s_answers : Sp) (s_l_alike10 : Sp) (s_length : Sp) (s_l_due11 : Sp) (s_total : Sp) (E : XK) : TS :=
  (tSeq (tAsg (tLst tNil) (gName 7))
    (t_law_k14_7 K s_l_start s_l_run s_l_noted s_l_deed_by s_answers s_l_alike10 s_length s_l_due11 s_total E))
def t_law_k14_5 (K : PySem.W.Frag) (s_l_start : Sp) (s_l_run : Sp) (s_l_noted : Sp) (s_l_deed_by : Sp) (s_answers : Sp) (s_l_alike10 : Sp) (s_length : Sp) (s_l_due11 : Sp) (s_total : Sp) (E : XK) : TS :=
  (tSeq (tAsg (tLst tNil) (gName 6))
    (t_law_k14_6 K s_l_start s_l_run s_l_noted s_l_deed_by s_answers s_l_alike10 s_length s_l_due11 s_total E))
def t_law_k14_4 (K : PySem.W.Frag) (s_l_start : Sp) (s_l_run : Sp) (s_l_noted : Sp) (s_l_deed_by : Sp) (s_answers : Sp) (s_l_alike10 : Sp) (s_length : Sp) (s_l_due11 : Sp) (s_total : Sp) (E : XK) : TS :=
  (tSeq (tAsg (tLst (tCons (tVar 3) tNil)) (gName 5))
    (t_law_k14_5 K s_l_start s_l_run s_l_noted s_l_deed_by s_answers s_l_alike10 s_length s_l_due11 s_total E))
def t_law_k14_3 (K : PySem.W.Frag) (s_l_start : Sp) (s_l_run : Sp) (s_l_noted : Sp) (s_l_deed_by : Sp) (s_answers : Sp) (s_l_alike10 : Sp) (s_length : Sp) (s_l_due11 : Sp) (s_total : Sp) (E : XK) : TS :=
  (tSeq (tAsg (tOp (rIxT K) (tVar 1) (tC (.int 2))) (gName 4))
    (t_law_k14_4 K s_l_start s_l_run s_l_noted s_l_deed_by s_answers s_l_alike10 s_length s_l_due11 s_total E))
def t_law_k14_2 (K : PySem.W.Frag) (s_l_start : Sp) (s_l_run : Sp) (s_l_noted : Sp) (s_l_deed_by : Sp) (s_answers : Sp) (s_l_alike10 : Sp) (s_length : Sp) (s_l_due11 : Sp) (s_total : Sp) (E : XK) : TS :=
  (tSeq (tAsg (tOp (rIxT K) (tVar 1) (tC (.int 1))) (gName 3))
    (t_law_k14_3 K s_l_start s_l_run s_l_noted s_l_deed_by s_answers s_l_alike10 s_length s_l_due11 s_total E))
def t_law_k14_1 (K : PySem.W.Frag) (s_l_start : Sp) (s_l_run : Sp) (s_l_noted : Sp) (s_l_deed_by : Sp) (s_answers : Sp) (s_l_alike10 : Sp) (s_length : Sp) (s_l_due11 : Sp) (s_total : Sp) (E : XK) : TS :=
  (tSeq (tAsg (tOp (rIxT K) (tVar 1) (tC (.int 0))) (gName 2))
    (t_law_k14_2 K s_l_start s_l_run s_l_noted s_l_deed_by s_answers s_l_alike10 s_length s_l_due11 s_total E))
def t_law_k14 (K : PySem.W.Frag) (s_l_start : Sp) (s_l_run : Sp) (s_l_noted : Sp) (s_l_deed_by : Sp) (s_answers : Sp) (s_l_alike10 : Sp) (s_length : Sp) (s_l_due11 : Sp) (s_total : Sp) (E : XK) : TS :=
  (tSeq (tAsg (tCall s_l_start [] E (tCons (tVar 0) tNil)) (gName 1))
    (t_law_k14_1 K s_l_start s_l_run s_l_noted s_l_deed_by s_answers s_l_alike10 s_length s_l_due11 s_total E))
end RB
namespace RB
open PySem PySem.Spec PyProof.Rows L2
def seg (f : Int → Int) (a : Int) (n : Nat) : List Int := (List.range n).map fun i => f (a + (i : Nat))
theorem seg_length (f : Int → Int) (a : Int) (n : Nat) : (seg f a n).length = n := by simp [seg]
theorem seg_get {f : Int → Int} {a : Int} {n i : Nat} (h : i < n) : (seg f a n)[i]? = some (f (a + (i : Nat))) := by
  simp [seg, List.getElem?_map, List.getElem?_range h]
theorem seg_append (f : Int → Int) (a : Int) (n k : Nat) : seg f a (n + k) = seg f a n ++ seg f (a + (n : Nat)) k := by
  apply List.ext_getElem?
  intro i
  by_cases h : i < n
  · rw [List.getElem?_append_left (by rw [seg_length]; exact h), seg_get h, seg_get (by omega)]
  · rw [List.getElem?_append_right (by rw [seg_length]; omega), seg_length]
    by_cases h2 : i < n + k
    · rw [seg_get h2, seg_get (by omega)]
      congr 2
      omega
    · rw [List.getElem?_eq_none (by rw [seg_length]; omega), List.getElem?_eq_none (by rw [seg_length]; omega)]
theorem seg_congr {f g : Int → Int} {a b : Int} {n : Nat} (h : ∀ i : Nat, i < n → f (a + i) = g (b + i)) : seg f a n = seg g b n := by
  unfold seg
  apply List.map_congr_left
  intro i hi
  exact h i (List.mem_range.mp hi)
theorem seg_map (g : Int → Int) (f : Int → Int) (a : Int) (n : Nat) : (seg f a n).map g = seg (fun i => g (f i)) a n := by
  simp [seg, List.map_map, Function.comp_def]
theorem seg_zero (f : Int → Int) (a : Int) : seg f a 0 = [] := rfl
theorem seg_const (c a : Int) (n : Nat) : seg (fun _ => c) a n = List.replicate n c := by
  simp [seg, List.map_const']
inductive T where
  | leaf (m t l mo : Int)
  | node (m t l mo : Int) (a b : T)
namespace T
def many : T → Int
  | leaf m _ _ _ => m
  | node m _ _ _ _ _ => m
def tot : T → Int
  | leaf _ t _ _ => t
  | node _ t _ _ _ _ => t
def low : T → Int
  | leaf _ _ l _ => l
  | node _ _ l _ _ _ => l
def more : T → Int
  | leaf _ _ _ o => o
  | node _ _ _ o _ _ => o
def ht : T → Nat
  | leaf _ _ _ _ => 0
  | node _ _ _ _ a b => max a.ht b.ht + 1
def den : T → Int → Int
  | leaf _ _ l _, _ => l
  | node _ _ _ o a b, i => (if i < a.many then a.den i else b.den (i - a.many)) + o
def Wf : T → Prop
  | leaf m t l o => (0 ≤ m ∧ o = 0) ∧ t = m * l
  | node m t l o a b => a.Wf ∧ b.Wf ∧ 0 < a.many ∧ 0 < b.many ∧ m = a.many + b.many ∧ t = a.tot + b.tot + m * o ∧ l = min a.low b.low + o ∧ a.many = m / 2
theorem Wf.nn : ∀ {t : T}, t.Wf → 0 ≤ t.many
  | leaf _ _ _ _, h => h.1.1
  | node _ _ _ _ _ _, h => by
    obtain ⟨_, _, h1, h2, h3, _⟩ := h
    show (0 : Int) ≤ _
    dsimp only [many]
    omega
end T
def cut (t : T) (lo hi : Int) : List Int := seg t.den (max lo 0) (min hi t.many - max lo 0).toNat
theorem cut_none {t : T} {lo hi : Int} (h : min hi t.many ≤ max lo 0) : cut t lo hi = [] := by
  unfold cut
  rw [show (min hi t.many - max lo 0).toNat = 0 by omega]
  rfl
theorem cut_leaf {m t l o lo hi : Int} : cut (.leaf m t l o) lo hi = List.replicate (min hi m - max lo 0).toNat l := by
  unfold cut
  exact seg_const l _ _
theorem cut_node {m t l o lo hi : Int} {a b : T} (ha : 0 ≤ a.many) (hb : 0 ≤ b.many) (hm : m = a.many + b.many) :
    cut (.node m t l o a b) lo hi = (cut a (max lo 0) (min hi m) ++ cut b (max lo 0 - a.many) (min hi m - a.many)).map (· + o) := by
  unfold cut
  rw [List.map_append, seg_map, seg_map]
  show seg _ (max lo 0) (min hi m - max lo 0).toNat = _
  generalize hL : max lo 0 = L
  generalize hH : min hi m = Hh
  have hL0 : 0 ≤ L := by omega
  have hHm : Hh ≤ m := by omega
  rw [show max L 0 = L by omega]
  have e1 : (Hh - L).toNat = (min Hh a.many - L).toNat + (min (Hh - a.many) b.many - max (L - a.many) 0).toNat := by omega
  rw [e1, seg_append]
  congr 1
  · apply seg_congr
    intro i hi
    show (if L + (i : Int) < a.many then _ else _) + o = _
    rw [if_pos (by omega)]
  · by_cases z : (min (Hh - a.many) b.many - max (L - a.many) 0).toNat = 0
    · rw [z, seg_zero, seg_zero]
    · apply seg_congr
      intro i hi
      show (if L + _ + (i : Int) < a.many then _ else _) + o = _
      rw [if_neg (by omega)]
      congr 2
      omega
theorem cut_len (t : T) (lo hi : Int) : (cut t lo hi).length = (min hi t.many - max lo 0).toNat := seg_length _ _ _
def flds (m t l o L R : V) : List (Str × V) := [("many", m), ("total", t), ("least", l), ("more", o), ("left", L), ("right", R)]
def TreeAt (C : Addr) (H : Hp) : Addr → T → Prop
  | p, .leaf m t l o => ∃ dx, H p = some (.ins C dx (flds (.int m) (.int t) (.int l) (.int o) .non .non))
  | p, .node m t l o a b => ∃ dx pa pb, H p = some (.ins C dx (flds (.int m) (.int t) (.int l) (.int o) (.ref pa) (.ref pb))) ∧ TreeAt C H pa a ∧ TreeAt C H pb b
theorem TreeAt.ins {C : Addr} {H H' : Hp} (s : Ins H H') : ∀ {t : T} {p : Addr}, TreeAt C H p t → TreeAt C H' p t
  | .leaf _ _ _ _, _, ⟨dx, h⟩ => ⟨dx, s _ _ _ _ h⟩
  | .node _ _ _ _ _ _, _, ⟨dx, pa, pb, h, ha, hb⟩ => ⟨dx, pa, pb, s _ _ _ _ h, ha.ins s, hb.ins s⟩
theorem TreeAt.same {C : Addr} {H H' : Hp} {t : T} {p : Addr} (h : TreeAt C H p t) (s : Same H H') : TreeAt C H' p t := h.ins (.same s)
structure Tx (K : PySem.W.Frag) (C : Addr) : Prop where
  cl : Cls K C
  many : NoAttr K C "many"
  total : NoAttr K C "total"
  least : NoAttr K C "least"
  more : NoAttr K C "more"
  left : NoAttr K C "left"
  right : NoAttr K C "right"
section
variable {K : PySem.W.Frag} {C dx p : Addr} {H : Hp} {Q : VK} {m t l o L R : V}
theorem lk_many : (flds m t l o L R).lookup ("many" : Str) = some m := rfl
theorem lk_total : (flds m t l o L R).lookup ("total" : Str) = some t := rfl
theorem lk_least : (flds m t l o L R).lookup ("least" : Str) = some l := rfl
theorem lk_more : (flds m t l o L R).lookup ("more" : Str) = some o := rfl
theorem lk_left : (flds m t l o L R).lookup ("left" : Str) = some L := rfl
theorem lk_right : (flds m t l o L R).lookup ("right" : Str) = some R := rfl
theorem f_many (X : Tx K C) (h : H p = some (.ins C dx (flds m t l o L R))) : nFld K "many" (.ref p) H Q = Q m H := nFld_ap h X.cl X.many lk_many
theorem f_total (X : Tx K C) (h : H p = some (.ins C dx (flds m t l o L R))) : nFld K "total" (.ref p) H Q = Q t H := nFld_ap h X.cl X.total lk_total
theorem f_least (X : Tx K C) (h : H p = some (.ins C dx (flds m t l o L R))) : nFld K "least" (.ref p) H Q = Q l H := nFld_ap h X.cl X.least lk_least
theorem f_more (X : Tx K C) (h : H p = some (.ins C dx (flds m t l o L R))) : nFld K "more" (.ref p) H Q = Q o H := nFld_ap h X.cl X.more lk_more
theorem f_left (X : Tx K C) (h : H p = some (.ins C dx (flds m t l o L R))) : nFld K "left" (.ref p) H Q = Q L H := nFld_ap h X.cl X.left lk_left
theorem f_right (X : Tx K C) (h : H p = some (.ins C dx (flds m t l o L R))) : nFld K "right" (.ref p) H Q = Q R H := nFld_ap h X.cl X.right lk_right
theorem TreeAt.root {t : T} (h : TreeAt C H p t) : ∃ dx L R, H p = some (.ins C dx (flds (.int t.many) (.int t.tot) (.int t.low) (.int t.more) L R)) := by
  cases t with
  | leaf m t l o => obtain ⟨dx, h⟩ := h; exact ⟨dx, _, _, h⟩
  | node m t l o a b => obtain ⟨dx, pa, pb, h, _⟩ := h; exact ⟨dx, _, _, h⟩
end
def RowIs (t : T) (xs : List Int) : Prop := t.many = (xs.length : Int) ∧ ∀ (i : Nat) (z : Int), xs[i]? = some z → t.den (i : Int) = z
theorem cutV_head {xs : List Int} {k : Nat} (h : k ≤ xs.length) : cutV (xs.map V.int) none (some (k : Int)) = (xs.take k).map V.int := by
  unfold cutV
  rw [HT.sIx_none, HT.sIx_nat, List.length_map, List.drop_zero, List.map_take]
  congr 1
  omega
theorem cutV_tail {xs : List Int} {k : Nat} (h : k ≤ xs.length) : cutV (xs.map V.int) (some (k : Int)) none = (xs.drop k).map V.int := by
  unfold cutV
  rw [HT.sIx_none, HT.sIx_nat, List.length_map, List.map_drop, show min k xs.length = k by omega]
  rw [List.take_of_length_le (by rw [List.length_drop, List.length_map]; omega)]
theorem sum_map_add (o : Int) : ∀ l : List Int, (l.map (· + o)).sum = l.sum + (l.length : Int) * o
  | [] => by simp
  | x :: r => by
    have ih := sum_map_add o r
    rw [List.map_cons, List.sum_cons, List.sum_cons, ih, List.length_cons, Int.natCast_succ, Int.add_mul]
    omega
theorem sum_replicate (o : Int) : ∀ n : Nat, (List.replicate n o).sum = (n : Int) * o
  | 0 => by simp
  | n + 1 => by
    rw [List.replicate_succ, List.sum_cons, sum_replicate o n, Int.natCast_succ, Int.add_mul]
    omega
theorem cut_whole {t : T} {lo hi : Int} (h : min hi t.many - max lo 0 = t.many) (h0 : 0 ≤ t.many) (hn : 0 < t.many) : cut t lo hi = cut t 0 t.many := by
  unfold cut
  rw [show max lo 0 = 0 by omega, show min hi t.many = t.many by omega]
  simp
theorem cut_tot : ∀ {t : T}, t.Wf → (cut t 0 t.many).sum = t.tot
  | .leaf m t l o, h => by
    rw [cut_leaf, sum_replicate]
    obtain ⟨h0, h1⟩ := h
    show (((min m m - max 0 0).toNat : Nat) : Int) * l = t
    rw [h1, show (((min m m - max 0 0).toNat : Nat) : Int) = m by omega]
  | .node m t l o a b, h => by
    obtain ⟨wa, wb, ha, hb, hm, ht, hl⟩ := h
    rw [cut_node (by omega) (by omega) hm]
    show (List.map _ (cut a (max 0 0) (min m m) ++ cut b (max 0 0 - a.many) (min m m - a.many))).sum = t
    have ea : cut a (max 0 0) (min m m) = cut a 0 a.many := cut_whole (by omega) (by omega) ha
    have eb : cut b (max 0 0 - a.many) (min m m - a.many) = cut b 0 b.many := cut_whole (by omega) (by omega) hb
    rw [ea, eb, sum_map_add, List.sum_append, cut_tot wa, cut_tot wb, List.length_append, cut_len, cut_len, ht]
    congr 2
    omega
theorem low_le : ∀ {t : T} {i : Int}, t.Wf → 0 ≤ i → i < t.many → t.low ≤ t.den i
  | .leaf _ _ _ _, _, _, _, _ => Int.le_refl _
  | .node m t l o a b, i, h, h0, h1 => by
    obtain ⟨wa, wb, ha, hb, hm, ht, hl⟩ := h
    have h1' : i < m := h1
    show l ≤ (if i < a.many then a.den i else b.den (i - a.many)) + o
    split
    · have := low_le (t := a) (i := i) wa h0 (by omega)
      omega
    · have := low_le (t := b) (i := i - a.many) wb (by omega) (by omega)
      omega
def IsFirst (t : T) (lo b : Int) : Option Int → Prop
  | none => ∀ i, max lo 0 ≤ i → i < t.many → b < t.den i
  | some k => max lo 0 ≤ k ∧ k < t.many ∧ t.den k ≤ b ∧ ∀ i, max lo 0 ≤ i → i < k → b < t.den i
def optV : Option Int → V
  | none => .non
  | some i => .int i
end RB
namespace RB
open PySem PySem.Spec PyProof.Rows L2
local macro_rules | `(tactic| walk_at "ev") => `(tactic| try simp only [tSeq, tIfS, tTest, tNot, tAnd, tOr, tB, tOp, tUn, tVar, tC, tRet, tAsg, gName, tNext, tCB, tCons, tNil, tDrop, tRaise, tChain, tChain3, tAndV, tOrV, tNotV, tIf, tCall, tFld_ap, tLc_ap, tLcR_ap, tFor_ap, tForR_ap, tForR2_ap, nTry, nTryAs, tCallS, tKnown, tBM, gSub, tSl, tNoPart, tPart, tLst, tTup, wipe,
  List.getElem?_cons_zero, List.getElem?_cons_succ, List.set_cons_zero, List.set_cons_succ, ex_some, ex_bl, ex_int, List.nil_append, List.cons_append, List.append_nil,
  nAdd_ap, nSub_ap, nLt_ap, nLe_ap, nGt_ap, nGe_ap, nMul_ap, nMulW_ap, nDiv_ap, nMod_ap, nPow_ap, nNeg_ap, nMax_ap, nMin_ap, rEq_ap, rNe_ap, nIs_ap, nIsNot_ap, dec_int_non, dec_ref_non, dec_non_non, ref_non, int_non, non_ref, non_int, isi_int_int, isi_int_bool,
  decide_eq_true_eq, Bool.not_eq_true', decide_eq_false_iff_not, decide_true, decide_false, Bool.not_true, Bool.not_false, ite_tt', ite_ff', Bool.false_eq_true, Bool.true_eq_false, not_true_eq_false, not_false_eq_true, if_true, if_false])
section
variable {K : PySem.W.Frag} {C : Addr}
def sp_check_stretch (C CO : Addr) : Sp := fun vs H Q E => ∃ (p : Addr) (t : T) (lo hi : Int), vs = [.ref p, .int lo, .int hi] ∧ TreeAt C H p t ∧
  ((0 ≤ lo ∧ lo ≤ hi ∧ hi ≤ t.many) → Q .non H) ∧ (¬ (0 ≤ lo ∧ lo ≤ hi ∧ hi ≤ t.many) → E (.ref CO) none H)
theorem p_check_stretch (X : Tx K C) {CO : Addr} (vs : List V) (H : Hp) (Q : VK) (E : XK) (h : sp_check_stretch C CO vs H Q E) :
    t_check_stretch K CO E { nx := fun _ H' => Q .non H', rt := Q } (start ["book", "low", "high"] vs) H := by
  obtain ⟨p, t, lo, hi, rfl, hT, q1, q2⟩ := h
  obtain ⟨dx, L, R, hp⟩ := hT.root
  show t_check_stretch K CO E _ [some (.ref p), some (.int lo), some (.int hi)] H
  unfold t_check_stretch
  walk_at "ev"
  simp only [f_many X hp]
  walk_at "ev"
  split
  · split
    · split
      · exact q2 (by omega)
      · exact q1 (by omega)
    · exact q2 (by omega)
  · exact q2 (by omega)
def sp_Tree (C : Addr) : Sp := fun vs H Q _ => ∃ (p dx : Addr) (m t l o L R : V), vs = [.ref p, m, t, l, o, L, R] ∧ H p = some (.ins C dx []) ∧ Q .non (upd H p (.ins C dx (flds m t l o L R)))
theorem n1 : ¬ (("many" : Str) = "total") := by decide +kernel
theorem p_Tree_init (X : Tx K C) (vs : List V) (H : Hp) (Q : VK) (E : XK) (h : sp_Tree C vs H Q E) :
    t_Tree_init K E { nx := fun _ H' => Q .non H', rt := Q } (start ["self", "many", "total", "least", "more", "left", "right"] vs) H := by
  obtain ⟨p, dx, m, t, l, o, L, R, rfl, hp, q⟩ := h
  show t_Tree_init K E _ [some (.ref p), some m, some t, some l, some o, some L, some R] H
  have e : upd (upd (upd (upd (upd (upd H p (.ins C dx (putF "many" m []))) p (.ins C dx (putF "total" t (putF "many" m [])))) p (.ins C dx (putF "least" l (putF "total" t (putF "many" m [])))))
    p (.ins C dx (putF "more" o (putF "least" l (putF "total" t (putF "many" m [])))))) p (.ins C dx (putF "left" L (putF "more" o (putF "least" l (putF "total" t (putF "many" m []))))))) p
    (.ins C dx (putF "right" R (putF "left" L (putF "more" o (putF "least" l (putF "total" t (putF "many" m []))))))) = upd H p (.ins C dx (flds m t l o L R)) := by
    simp only [upd_upd]
    rfl
  refine ⟨_, rfl, _, rfl, p, C, dx, [], rfl, hp, X.cl, X.many, (by show 0 < 1000; decide), ?_⟩
  refine ⟨_, rfl, _, rfl, p, C, dx, _, rfl, upd_same, X.cl, X.total, (by show 1 < 1000; decide), ?_⟩
  refine ⟨_, rfl, _, rfl, p, C, dx, _, rfl, upd_same, X.cl, X.least, (by show 2 < 1000; decide), ?_⟩
  refine ⟨_, rfl, _, rfl, p, C, dx, _, rfl, upd_same, X.cl, X.more, (by show 3 < 1000; decide), ?_⟩
  refine ⟨_, rfl, _, rfl, p, C, dx, _, rfl, upd_same, X.cl, X.left, (by show 4 < 1000; decide), ?_⟩
  refine ⟨_, rfl, _, rfl, p, C, dx, _, rfl, upd_same, X.cl, X.right, (by show 5 < 1000; decide), ?_⟩
  show Q .non _
  rw [e]
  exact q
theorem make_tree {H : Hp} {Q : VK} {E : XK} {m t l o L R : V} {σ : L2.St} {ta : TA} (h : ta σ H = fun q => q [m, t, l, o, L, R] H)
    (q : ∀ x dx, H x = none → Same H (upd (upd H dx (.own x)) x (.ins C dx (flds m t l o L R))) → Q (.ref x) (upd (upd H dx (.own x)) x (.ins C dx (flds m t l o L R)))) : tMake C (sp_Tree C) [] E ta σ H Q := by
  unfold tMake
  rw [h]
  intro x dx nx nd ne
  refine ⟨x, dx, m, t, l, o, L, R, rfl, upd_same, rfl, ?_⟩
  rw [upd_upd]
  refine q x dx nx fun b u e => ?_
  rw [upd_ne (ne_of_none e nx), upd_ne (ne_of_none e nd)]
  exact e
def sp_even_tree (C : Addr) : Sp := fun vs H Q _ => ∃ (m v : Int), vs = [.int m, .int v] ∧ 0 ≤ m ∧ m ≤ 1000000000000 ∧ ∀ (x : Addr) (H' : Hp), Same H H' → H x = none → TreeAt C H' x (.leaf m (m * v) v 0) → Q (.ref x) H'
theorem p_even_tree (vs : List V) (H : Hp) (Q : VK) (E : XK) (h : sp_even_tree C vs H Q E) :
    t_even_tree C (sp_Tree C) E { nx := fun _ H' => Q .non H', rt := Q } (start ["many", "number"] vs) H := by
  obtain ⟨m, v, rfl, h0, h1, q⟩ := h
  show t_even_tree C (sp_Tree C) E _ [some (.int m), some (.int v)] H
  unfold t_even_tree tRet
  refine make_tree (m := .int m) (t := .int (m * v)) (l := .int v) (o := .int 0) (L := .non) (R := .non) ?_ fun x dx nx s => q x _ s nx ⟨dx, upd_same⟩
  funext q
  walk_at "ev"
  exact propext ⟨fun h => h.2, fun h => ⟨.inl ⟨by omega, by omega⟩, h⟩⟩
def sp_even (C CN : Addr) : Sp := fun vs H Q E => ∃ (m v : Int), vs = [.int m, .int v] ∧ ((0 ≤ m ∧ m ≤ 1000000000000) → ∀ (x : Addr) (H' : Hp), Same H H' → H x = none → TreeAt C H' x (.leaf m (m * v) v 0) → Q (.ref x) H') ∧
  (¬ (0 ≤ m ∧ m ≤ 1000000000000) → E (.ref CN) none H)
theorem p_even {CN : Addr} (vs : List V) (H : Hp) (Q : VK) (E : XK) (h : sp_even C CN vs H Q E) :
    t_even CN (sp_even_tree C) E { nx := fun _ H' => Q .non H', rt := Q } (start ["many", "number"] vs) H := by
  obtain ⟨m, v, rfl, q1, q2⟩ := h
  show t_even CN (sp_even_tree C) E _ [some (.int m), some (.int v)] H
  unfold t_even
  walk_at "ev"
  split
  · exact q2 (by omega)
  · split
    · exact q2 (by omega)
    · exact ⟨m, v, rfl, by omega, by omega, q1 (by omega)⟩
def sp_length (C : Addr) : Sp := fun vs H Q _ => ∃ (p : Addr) (t : T), vs = [.ref p] ∧ TreeAt C H p t ∧ Q (.int t.many) H
theorem p_length (X : Tx K C) (vs : List V) (H : Hp) (Q : VK) (E : XK) (h : sp_length C vs H Q E) :
    t_length K E { nx := fun _ H' => Q .non H', rt := Q } (start ["book"] vs) H := by
  obtain ⟨p, t, rfl, hT, q⟩ := h
  obtain ⟨dx, L, R, hp⟩ := hT.root
  show t_length K E _ [some (.ref p)] H
  unfold t_length
  walk_at "ev"
  simp only [f_many X hp]
  exact q
def sp_numbers_in (C : Addr) (n : Nat) : Sp := fun vs H Q _ => ∃ (p : Addr) (t : T) (lo hi ab : Int), vs = [.ref p, .int lo, .int hi, .int ab] ∧ TreeAt C H p t ∧ t.Wf ∧ t.ht < n ∧ min hi t.many - max lo 0 ≤ 1000 ∧
  ∀ (r : Addr) (H' : Hp), Same H H' → H r = none → H' r = some (.lst (((cut t lo hi).map (· + ab)).map V.int)) → Q (.ref r) H'
theorem p_numbers_in (X : Tx K C) {n : Nat} (vs : List V) (H : Hp) (Q : VK) (E : XK) (h : sp_numbers_in C (n + 1) vs H Q E) :
    t_numbers_in K (sp_numbers_in C n) E { nx := fun _ H' => Q .non H', rt := Q } (start ["tree", "low", "high", "above", "half", "ahead", "behind"] vs) H := by
  obtain ⟨p, t, lo, hi, ab, rfl, hT, wf, hh, hz, q⟩ := h
  show t_numbers_in K (sp_numbers_in C n) E _ [some (.ref p), some (.int lo), some (.int hi), some (.int ab), none, none, none] H
  unfold t_numbers_in
  obtain ⟨dx, L, R, hp⟩ := hT.root
  walk_at "ev"
  simp only [f_many X hp]
  walk_at "ev"
  split
  · rename_i hc
    refine ⟨Nat.zero_le _, fun r hr => q r _ (same_new hr _) hr ?_⟩
    rw [upd_same, cut_none hc]
    rfl
  rename_i hc
  cases t with
  | leaf m t l o =>
    obtain ⟨dx, hp⟩ := hT
    have hc' : ¬ min hi m ≤ max lo 0 := hc
    have hz' : min hi m - max lo 0 ≤ 1000 := hz
    simp only [f_left X hp, tLst]
    walk_at "ev"
    simp only [f_least X hp]
    walk_at "ev"
    refine ⟨(by show 1 ≤ sizeLine; decide), fun r0 h0 => ⟨r0, _, [.int (l + ab)], rfl, rfl, upd_same, ?_, ?_, ?_, fun r hr => ?_⟩⟩
    · show _ ≤ min hi m - max lo 0
      omega
    · show min hi m - max lo 0 < _
      omega
    · show 1 * (min hi m - max lo 0).toNat ≤ _
      rw [Nat.one_mul]
      exact Nat.le_of_lt (small1000 (by omega))
    · have s1 := same_new h0 (.lst [.int (l + ab)])
      refine q r _ (s1.trans (same_new hr _)) (s1.free hr) ?_
      rw [upd_same, cut_leaf, List.flatten_replicate_singleton, List.map_replicate, List.map_replicate]
      rfl
  | node m t l o a b =>
    obtain ⟨dx, pa, pb, hp, ha, hb⟩ := hT
    obtain ⟨wa, wb, a0, b0, em, et, el⟩ := wf
    have hc' : ¬ min hi m ≤ max lo 0 := hc
    have hz' : min hi m - max lo 0 ≤ 1000 := hz
    have hh' : max a.ht b.ht + 1 < n + 1 := hh
    obtain ⟨dxa, La, Ra, hpa⟩ := ha.root
    simp only [f_left X hp]
    walk_at "ev"
    simp only [f_many X hpa, f_left X hp]
    walk_at "ev"
    simp only [f_more X hp]
    walk_at "ev"
    refine ⟨pa, a, _, _, _, rfl, ha, wa, by omega, (by show min (min hi m) a.many - max (max lo 0) 0 ≤ 1000; omega), fun r1 H1 s1 n1 e1 => ?_⟩
    have hp1 := s1 _ _ hp
    simp only [f_right X hp1]
    walk_at "ev"
    simp only [f_more X hp1]
    walk_at "ev"
    refine ⟨pb, b, _, _, _, rfl, hb.same s1, wb, by omega, (by show min (min hi m - a.many) b.many - max (max lo 0 - a.many) 0 ≤ 1000; omega), fun r2 H2 s2 n2 e2 => ?_⟩
    have l1 := cut_len a (max lo 0) (min hi m)
    have l2 := cut_len b (max lo 0 - a.many) (min hi m - a.many)
    have e1' := s2 _ _ e1
    walk_at "ev"
    refine ⟨r1, r2, _, _, rfl, rfl, e1', e2, ?_, fun r3 n3 => ?_⟩
    · rw [List.length_map, List.length_map, List.length_map, List.length_map]
      show (cut a (max lo 0) (min hi m)).length + (cut b (max lo 0 - a.many) (min hi m - a.many)).length ≤ sizeLine
      rw [l1, l2]
      exact small (by omega)
    · refine q r3 _ (s1.trans (s2.trans (same_new n3 _))) (s1.free (s2.free n3)) ?_
      rw [upd_same, cut_node (by omega) (by omega) em, List.map_map (f := fun x => x + o), ← List.map_append, ← List.map_append]
      have e : (fun x => x + ab) ∘ (fun x => x + o) = fun x : Int => x + (ab + o) := by
        funext x
        show x + o + ab = x + (ab + o)
        omega
      rw [e]
      rfl
theorem no_numbers_in : ∀ vs H Q E, ¬ sp_numbers_in C 0 vs H Q E := fun vs H Q E h => by
  obtain ⟨_, t, _, _, _, _, _, _, h, _⟩ := h
  omega
def sp_listed (C CO CT : Addr) (n : Nat) : Sp := fun vs H Q E => ∃ (p : Addr) (t : T) (lo hi : Int), vs = [.ref p, .int lo, .int hi] ∧ TreeAt C H p t ∧ t.Wf ∧ t.ht < n ∧
  ((0 ≤ lo ∧ lo ≤ hi ∧ hi ≤ t.many ∧ hi - lo ≤ 1000) → ∀ (r : Addr) (H' : Hp), Same H H' → H r = none → H' r = some (.lst ((seg t.den lo (hi - lo).toNat).map V.int)) → Q (.ref r) H') ∧
  (¬ (0 ≤ lo ∧ lo ≤ hi ∧ hi ≤ t.many) → E (.ref CO) none H) ∧ ((0 ≤ lo ∧ lo ≤ hi ∧ hi ≤ t.many ∧ 1000 < hi - lo) → E (.ref CT) none H)
theorem p_listed {CO CT : Addr} {n : Nat} (vs : List V) (H : Hp) (Q : VK) (E : XK) (h : sp_listed C CO CT n vs H Q E) :
    t_listed CT (sp_check_stretch C CO) (sp_numbers_in C n) E { nx := fun _ H' => Q .non H', rt := Q } (start ["book", "low", "high"] vs) H := by
  obtain ⟨p, t, lo, hi, rfl, hT, wf, hh, q1, q2, q3⟩ := h
  show t_listed CT (sp_check_stretch C CO) (sp_numbers_in C n) E _ [some (.ref p), some (.int lo), some (.int hi)] H
  unfold t_listed
  walk_at "ev"
  refine ⟨p, t, lo, hi, rfl, hT, fun hc => ?_, q2⟩
  split
  · exact q3 (by omega)
  · refine ⟨p, t, lo, hi, 0, rfl, hT, wf, hh, by omega, fun r H' s n e => q1 (by omega) r H' s n ?_⟩
    rw [e, show (fun x : Int => x + 0) = id from funext fun x => Int.add_zero x, List.map_id]
    unfold cut
    rw [show max lo 0 = lo by omega, show min hi t.many = hi by omega]
end
end RB
namespace RB
open PySem PySem.Spec PyProof.Rows L2
local macro_rules | `(tactic| walk_at "ev") => `(tactic| try simp only [tSeq, tIfS, tTest, tNot, tAnd, tOr, tB, tOp, tUn, tVar, tC, tRet, tAsg, gName, tNext, tCB, tCons, tNil, tDrop, tRaise, tChain, tChain3, tAndV, tOrV, tNotV, tIf, tCall, tFld_ap, tLc_ap, tLcR_ap, tFor_ap, tForR_ap, tForR2_ap, nTry, nTryAs, tCallS, tKnown, tBM, gSub, tSl, tNoPart, tPart, tLst, tTup, wipe,
  List.getElem?_cons_zero, List.getElem?_cons_succ, List.set_cons_zero, List.set_cons_succ, ex_some, ex_bl, ex_int, List.nil_append, List.cons_append, List.append_nil,
  nAdd_ap, nSub_ap, nLt_ap, nLe_ap, nGt_ap, nGe_ap, nMul_ap, nMulW_ap, nDiv_ap, nMod_ap, nPow_ap, nNeg_ap, nMax_ap, nMin_ap, rEq_ap, rNe_ap, nIs_ap, nIsNot_ap, dec_int_non, dec_ref_non, dec_non_non, ref_non, int_non, non_ref, non_int, isi_int_int, isi_int_bool,
  decide_eq_true_eq, Bool.not_eq_true', decide_eq_false_iff_not, decide_true, decide_false, Bool.not_true, Bool.not_false, ite_tt', ite_ff', Bool.false_eq_true, Bool.true_eq_false, not_true_eq_false, not_false_eq_true, if_true, if_false])
section
variable {K : PySem.W.Frag} {C : Addr}
def sp_l_whole : Sp := fun vs H Q _ => ∃ i : Int, vs = [.int i] ∧ Q (.bl true) H
theorem l_whole_ap {i : Int} {H : Hp} {Q : VK} {E : XK} : sp_l_whole [.int i] H Q E = Q (.bl true) H := by
  unfold sp_l_whole
  apply propext
  constructor
  · rintro ⟨j, e, q⟩
    exact q
  · intro q
    exact ⟨i, rfl, q⟩
theorem p_l_whole (vs : List V) (H : Hp) (Q : VK) (E : XK) (h : sp_l_whole vs H Q E) :
    t_l_whole K E { nx := fun _ H' => Q .non H', rt := Q } (start ["_law_found"] vs) H := by
  obtain ⟨i, rfl, q⟩ := h
  show t_l_whole K E _ [some (.int i)] H
  unfold t_l_whole
  walk_at "ev"
  exact q
def cell (ns : List Int) (k : Nat) : Int := ns.getD k 0
def sp_l_cell_at (K : PySem.W.Frag) : Sp := fun vs H Q _ => ∃ (a : Addr) (ns : List Int) (k : Nat), vs = [.ref a, .int (k : Nat)] ∧ SqL K H a (ns.map V.int) ∧ Q (.int (cell ns k)) H
theorem p_l_cell_at (vs : List V) (H : Hp) (Q : VK) (E : XK) (h : sp_l_cell_at K vs H Q E) :
    t_l_cell_at K E { nx := fun _ H' => Q .non H', rt := Q } (start ["_law_script", "_law_k"] vs) H := by
  obtain ⟨a, ns, k, rfl, hS, q⟩ := h
  show t_l_cell_at K E _ [some (.ref a), some (.int k)] H
  unfold t_l_cell_at
  walk_at "ev"
  refine nLen_ap hS ?_
  walk_at "ev"
  rw [List.length_map]
  split
  · rename_i hk
    have hk' : k < ns.length := by omega
    refine ⟨a, _, _, _, rfl, rfl, hS, atI_nat (j := k) (by rw [List.getElem?_map, List.getElem?_eq_getElem hk']; rfl), ?_⟩
    have e : cell ns k = ns[k] := by
      unfold cell
      rw [List.getD_eq_getElem?_getD, List.getElem?_eq_getElem hk']
      rfl
    rw [e] at q
    exact q
  · have e : cell ns k = 0 := by
      unfold cell
      rw [List.getD_eq_getElem?_getD, List.getElem?_eq_none (by omega)]
      rfl
    rw [e] at q
    exact q
def numBy (c : Int) : Int := if c % 16 = 5 then (c / 16 % 5 - 2) * 10 ^ 64 * 10 ^ 64 * 10 ^ 64 else if c % 4 = 1 then c / 4 % (2 * 10 ^ 60 + 1) - 10 ^ 60 else if c % 4 = 2 then c / 4 % 3 - 1 else c / 4 % 41 - 20
def sp_l_number_by : Sp := fun vs H Q _ => ∃ c : Int, vs = [.int c] ∧ Q (.int (numBy c)) H
theorem l_number_by_ap {c : Int} {H : Hp} {Q : VK} {E : XK} : sp_l_number_by [.int c] H Q E = Q (.int (numBy c)) H := by
  unfold sp_l_number_by
  apply propext
  constructor
  · rintro ⟨j, e, q⟩
    cases e
    exact q
  · intro q
    exact ⟨c, rfl, q⟩
theorem p_l_number_by (vs : List V) (H : Hp) (Q : VK) (E : XK) (h : sp_l_number_by vs H Q E) :
    t_l_number_by E { nx := fun _ H' => Q .non H', rt := Q } (start ["_law_cell"] vs) H := by
  obtain ⟨c, rfl, q⟩ := h
  show t_l_number_by E _ [some (.int c)] H
  unfold t_l_number_by
  walk_at "ev"
  have t10 : ∀ k : Nat, ((10 : Int) ^ k).natAbs = 10 ^ k := fun k => by
    rw [Int.natAbs_pow]
    rfl
  have p10 : ∀ j : Int, 0 ≤ j → j ≤ 64 → CPow 10 j := fun j h0 h1 => ⟨h0, by omega, by decide⟩
  have b10 : ∀ k : Nat, k ≤ 64 → ((10 : Int) ^ k).natAbs < 2 ^ (4 * k + 1) := fun k hk => by
    rw [t10]
    exact Nat.lt_of_le_of_lt (Nat.pow_le_pow_left (by decide : 10 ≤ 16) k) (by rw [show (16 : Nat) = 2 ^ 4 by rfl, ← Nat.pow_mul]; exact Nat.pow_lt_pow_right (by decide) (by omega))
  have e64 : Int.toNat 64 = 64 := rfl
  have e60 : Int.toNat 60 = 60 := rfl
  rw [e64, e60]
  have s0 : (c / 16 % 5 - 2).natAbs < 2 ^ 2 := by omega
  have s1 := wide_lt s0 (b10 64 (by decide))
  have s2 := wide_lt s1 (b10 64 (by decide))
  refine ⟨by decide, ?_⟩
  unfold numBy at q
  split
  · rename_i hc
    rw [if_pos hc] at q
    exact ⟨⟨by decide, by decide⟩, by decide, p10 _ (by decide) (by decide), .inl ⟨by omega, by omega⟩, p10 _ (by decide) (by decide),
      wide_mul s1 (b10 64 (by decide)) (by decide) (by decide) (by decide), p10 _ (by decide) (by decide), wide_mul s2 (b10 64 (by decide)) (by decide) (by decide) (by decide), q⟩
  rename_i hc
  rw [if_neg hc] at q
  refine ⟨by decide, ?_⟩
  have d4 : CDiv c 4 := ⟨by decide, by decide⟩
  split
  · rename_i h1
    rw [if_pos h1] at q
    have pp : (0 : Int) < 10 ^ 60 := by
      have := Int.pow_pos (n := 10) (m := 60) (by decide)
      exact this
    exact ⟨d4, p10 _ (by decide) (by decide), .inl ⟨by decide, by decide⟩, by omega, p10 _ (by decide) (by decide), q⟩
  rename_i h1
  rw [if_neg h1] at q
  refine ⟨by decide, ?_⟩
  split
  · rename_i h2
    rw [if_pos h2] at q
    exact ⟨d4, by decide, q⟩
  · rename_i h2
    rw [if_neg h2] at q
    exact ⟨d4, by decide, q⟩
end
end RB
namespace RB
open PySem PySem.Spec PyProof.Rows L2 LamX NdefX
section
variable {K : PySem.W.Frag} {h : Heap} {mg : Str → Option Value} {x q : Str} {st : Stmt} {ps : List Str} {f C : Addr} {od an : Option Addr} {osl : Array (Option Value)} {oc kV doc pm cdv ct : Value}
theorem DefAt.mk' (X : K.In h) (G : h.Ns mainGlobals mg) (a : PySem.W.nsIn K mainGlobals x = some (some (.ref f))) (l : K.lookup f = some ⟨oc, od, .func (PySem.W.fnOf x x (defArgs st) (defBody st) (defScope st) .none kV doc pm an cdv ct), osl⟩)
    (c : PySem.W.codeIn K cdv x = true) (k : PySem.W.keepIn K (.ref f) = true)
    (b : ∀ (kV doc pm : Value) (an : Option Addr) (cdv ct : Value) (us : List Value), us.length = ps.length → bindArgs (PySem.W.fnOf x x (defArgs st) (defBody st) (defScope st) .none kV doc pm an cdv ct) ⟨us, []⟩ = pure (ps.zip us)) : DefAt K mg x st ps :=
  ⟨f, _, fun_mk l c k, PySem.W.mg_of X G a, (fun_mk l c k).binds b⟩
theorem ExcAt.mk' (X : K.In h) (G : h.Ns mainGlobals mg) (a : PySem.W.nsIn K mainGlobals x = some (some (.ref C)))
    (q : PySem.W.excIn K C [.type "ValueError", .type "Exception", .type "BaseException", .type "object"] "ValueError.__new__" = true) (k : PySem.W.keepIn K (.ref C) = true)
    (b : PySem.W.subIn K (.ref C) (.type "BaseException") = some true) (t : PySem.W.typeIn K (.ref C) = some (.type "type")) : ExcAt K mg x C := ⟨PySem.W.mg_of X G a, q, k, b, t⟩
structure MkAt (K : PySem.W.Frag) (mg : Str → Option Value) (x q : Str) (C : Addr) (st : Stmt) (ps : List Str) : Prop where
  ex : ∃ f fd, Mk K C f ∧ Fun K "__init__" q st f fd ∧ mg x = some (.ref C) ∧ Binds K fd ps []
theorem MkAt.mk' (X : K.In h) (G : h.Ns mainGlobals mg) (aC : PySem.W.nsIn K mainGlobals x = some (some (.ref C))) (a : PySem.W.findIn K (.ref C) "__init__" = some (some (.ref f))) (i : PySem.W.isFn K (.ref f) = true)
    (l : K.lookup f = some ⟨oc, od, .func (PySem.W.fnOf "__init__" q (defArgs st) (defBody st) (defScope st) .none kV doc pm an cdv ct), osl⟩)
    (c : PySem.W.codeIn K cdv q = true) (k : PySem.W.keepIn K (.ref f) = true) (mk : PySem.W.makesIn K C = true) (kc : PySem.W.keepIn K (.ref C) = true)
    (b : ∀ (kV doc pm : Value) (an : Option Addr) (cdv ct : Value) (us : List Value), us.length = ps.length → bindArgs (PySem.W.fnOf "__init__" q (defArgs st) (defBody st) (defScope st) .none kV doc pm an cdv ct) ⟨us, []⟩ = pure (ps.zip us)) : MkAt K mg x q C st ps :=
  ⟨f, _, ⟨mk, a, i, kc⟩, fun_mk l c k, PySem.W.mg_of X G aC, (fun_mk l c k).binds b⟩
variable {P : Program} {w : World} {base : Heap} {N : List Str} {sp : Sp} {n : Nat}
theorem MkAt.cal (D : MkAt K mg x q C st ps) (S : FnScope N ps (defScope st)) (len : ∀ vs H Q E, sp vs H Q E → vs.length = ps.length) (t : XK → TS)
    (der : ∀ (f : Addr) (cdv : Value) (A : Around) (outer : List Env) (s : Shared) (H : Hp) (E : XK), Room n (A.deeper (envOfC q (defScope st) s.heap.objs.size f cdv)) → PSs (cxOf (L2.CX P w) P w K mg base N q (defScope st) f cdv A outer s H E) (defBody st) (t E))
    (pure : ∀ vs H Q E, sp vs H Q E → t E { nx := fun _ H' => Q .non H', rt := Q } (start N vs) H) : CalMk P w K mg base (n + 1) x C ps sp := by
  obtain ⟨f, fd, M, F, hm, hb⟩ := D.ex
  exact ⟨f, fd, M, F.okX S len fun cdv A outer s H vs Q E hr h => ⟨t E, der f cdv A outer s H E hr, pure vs H Q E h⟩, hm, hb⟩
theorem Fun.fn {fd : FuncData} (F : Fun K x q st f fd) (S : FnScope N ps (defScope st)) (len : ∀ vs H Q E, sp vs H Q E → vs.length = ps.length) (t : XK → TS)
    (der : ∀ (f : Addr) (cdv : Value) (A : Around) (outer : List Env) (s : Shared) (H : Hp) (E : XK), Room n (A.deeper (envOfC q (defScope st) s.heap.objs.size f cdv)) → PSs (cxOf (L2.CX P w) P w K mg base N q (defScope st) f cdv A outer s H E) (defBody st) (t E))
    (pure : ∀ vs H Q E, sp vs H Q E → t E { nx := fun _ H' => Q .non H', rt := Q } (start N vs) H) : FnOk P w K mg base (L2.CX P w) (n + 1) f fd ps sp :=
  F.okX S len fun cdv A outer s H vs Q E hr h => ⟨t E, der f cdv A outer s H E hr, pure vs H Q E h⟩
end
theorem num_of {p : Program} {lv : List (Str × PySem.W.WData)} {mg : Str → Option Value} {h : Heap} {x : Str} {n : Int} (G : PySem.W.XL p lv mg h) (hm : (x, PySem.W.WData.int n) ∈ lv) : ∃ t, mg x = some (.int n t) := by
  obtain ⟨v, e, r⟩ := G.2.val _ hm
  cases r
  exact ⟨_, e⟩
theorem Tx.mk' {K : PySem.W.Frag} {C : Addr} (pg : PySem.W.plainGet K C Str.empty = true) (hd : PySem.W.hasDictIn K C = true) (po : PySem.W.plainOver K C = true) (sa : PySem.W.findIn K (.ref C) "__setattr__" = some (some (.builtin "object.__setattr__")))
    (n1 : PySem.W.findIn K (.ref C) "many" = some none) (n2 : PySem.W.findIn K (.ref C) "total" = some none) (n3 : PySem.W.findIn K (.ref C) "least" = some none) (n4 : PySem.W.findIn K (.ref C) "more" = some none)
    (n5 : PySem.W.findIn K (.ref C) "left" = some none) (n6 : PySem.W.findIn K (.ref C) "right" = some none) : Tx K C := ⟨⟨pg, hd, po, sa⟩, n1, n2, n3, n4, n5, n6⟩
structure DefAtL (K : PySem.W.Frag) (mg : Str → Option Value) (x : Str) (st : Stmt) (ps : List Str) (ca : Addr) : Prop where
  ex : ∃ f fd, Fun K x x st f fd ∧ mg x = some (.ref f) ∧ Binds K fd ps [] ∧ fd.code = .ref ca
theorem DefAtL.mk' {K : PySem.W.Frag} {h : Heap} {mg : Str → Option Value} {x : Str} {st : Stmt} {ps : List Str} {f ca : Addr} {od an : Option Addr} {osl : Array (Option Value)} {oc kV doc pm ct : Value}
    (X : K.In h) (G : h.Ns mainGlobals mg) (a : PySem.W.nsIn K mainGlobals x = some (some (.ref f))) (l : K.lookup f = some ⟨oc, od, .func (PySem.W.fnOf x x (defArgs st) (defBody st) (defScope st) .none kV doc pm an (.ref ca) ct), osl⟩)
    (c : PySem.W.codeIn K (.ref ca) x = true) (k : PySem.W.keepIn K (.ref f) = true)
    (b : ∀ (kV doc pm : Value) (an : Option Addr) (cdv ct : Value) (us : List Value), us.length = ps.length → bindArgs (PySem.W.fnOf x x (defArgs st) (defBody st) (defScope st) .none kV doc pm an cdv ct) ⟨us, []⟩ = pure (ps.zip us)) : DefAtL K mg x st ps ca :=
  ⟨f, _, fun_mk l c k, PySem.W.mg_of X G a, (fun_mk l c k).binds b, rfl⟩
theorem DefAtL.cal {P : Program} {w : World} {K : PySem.W.Frag} {mg : Str → Option Value} {base : Heap} {n : Nat} {x : Str} {st : Stmt} {ps N : List Str} {ca : Addr} {sp : Sp} (D : DefAtL K mg x st ps ca) (S : FnScope N ps (defScope st)) (len : ∀ vs H Q E, sp vs H Q E → vs.length = ps.length) (t : XK → TS)
    (der : ∀ (f : Addr) (A : Around) (outer : List Env) (s : Shared) (H : Hp) (E : XK), Room n (A.deeper (envOfC x (defScope st) s.heap.objs.size f (.ref ca))) → PSs (cxOf (L2.CX P w) P w K mg base N x (defScope st) f (.ref ca) A outer s H E) (defBody st) (t E))
    (pure : ∀ vs H Q E, sp vs H Q E → t E { nx := fun _ H' => Q .non H', rt := Q } (start N vs) H) : Cal P w K mg base (n + 1) x ps sp := by
  obtain ⟨f, fd, F, hm, hb, hcode⟩ := D.ex
  refine ⟨f, fd, ⟨len, fun A outer s H args us vs Q E hr e0 hbt r hsp => ?_⟩, hm, F.kp, hb⟩
  obtain ⟨oc, od, kV, doc, pm, an, cdv, ct, osl, rfl, lk, hcd⟩ := F.ex
  obtain rfl : cdv = .ref ca := hcode
  exact run_ofS lk hcd S hr e0 hbt r (len _ _ _ _ hsp) fun hr' => ⟨t E, der _ _ _ _ _ _ hr', pure _ _ _ _ hsp⟩
theorem tab_mk {K : PySem.W.Frag} {x : Str} {f c Pt : Addr} {oc oc2 : Value} {od od2 : Option Addr} {fd : FuncData} {osl osl2 : Array (Option Value)} {vs : Array Value} (a : PySem.W.nsIn K mainGlobals x = some (some (.ref f))) (l : K.lookup f = some ⟨oc, od, .func fd, osl⟩)
    (hc : fd.code = .ref c) (l2 : K.lookup c = some ⟨oc2, od2, .fields vs, osl2⟩) (hv : vs[11]? = some (.ref Pt)) : PySem.W.tabIn K x = some (c, Pt) := by
  unfold PySem.W.tabIn
  rw [a]
  dsimp only
  rw [l]
  dsimp only
  rw [hc]
  dsimp only
  rw [l2]
  dsimp only
  rw [hv]
def sp_lawT (K : PySem.W.Frag) (T : List (Addr × Str)) : Sp := fun vs H Q _ => ∃ (a : Addr) (ns : List Int), vs = [.ref a] ∧ SqL K H a (ns.map V.int) ∧ ns.length ≤ 63 ∧ Tabs T H ∧ ∀ H', Q (.bl true) H'
structure TabW (K : PySem.W.Frag) (mg : Str → Option Value) (h : Heap) (c Pt : Addr) : Prop where
  hd : PySem.W.CodeHd h c Pt
  at_ : h.get? Pt = some { cls := .none, data := .fields #[] }
  no : K.lookup Pt = none
theorem walkT {l : PySem.W.OpenLaw} {k : Nat} {q : Program} {loose : List Str} {XP : (Str → Option Value) → Heap → Prop} {YP : World → Heap → Prop} {d : DefRec} {K : Params → PySem.W.Frag} (hn : l.most = some 63) (hdf : d.params.defaults = []) (hr : Room k callerA)
    (hY : ∀ (w : World) (h : Heap), YP w h → (K w.params).In h)
    (F : ∀ (w : World) (mg mb : Str → Option Value) (fa : Addr) (h : Heap) (mean : ExcName → Option Value), (K w.params).In h → h.Ns mainGlobals mg → mg d.name = some (.ref fa) → XP mg h → PyProof.Rows.Top q (PySem.W.looseW q loose) mean mg mb h →
      ∃ (fd : FuncData) (cs : List (Addr × Addr)) (T : List (Addr × Str)), T.map (·.1) = cs.map (·.2) ∧ (∀ p ∈ cs, TabW (K w.params) mg h p.1 p.2) ∧ (∀ (s : Shared) (u : Value), BindsTo s fd ⟨[u], []⟩ [("_law_script", u)]) ∧
        ∀ base : Heap, (K w.params).In base → base.Ns mainGlobals mg → (∀ p ∈ cs, TabB base mg p.1 p.2) → FnOk l.prog w (K w.params) mg base (L2.CX l.prog w) k fa fd ["_law_script"] (sp_lawT (K w.params) T)) :
    PySem.W.WalkO q loose XP YP l.row.toRowW d [] (fun f vs => PySem.call f vs) := by
  refine Att.attach_callB (n := 63) hn hdf fun w s₀ s₁ mg mb fa o pm cd doc a vs ns G Y ho hd hcd hmg hobj hints hlen hbits hg => ?_
  have KX := hY w _ Y
  obtain ⟨fd, cs, T, hTc, hW, hb, hF⟩ := F w mg mb fa _ _ KX G.T.g hmg G.X G.T
  refine law_callTs (cs := cs) KX G.T.g G.T.b G.T.builtins G.T.nolimit hg (fun p hp => (hW p hp).at_) (fun p hp => (hW p hp).no) (fun p hp => (hW p hp).hd) G.T.bmain hobj hints (Nat.le_trans hlen (by decide)) hr hF hb (fun H hH hS => ⟨a, ns, rfl, hS, hlen, fun p hp => ?_, fun _ => rfl⟩) fun H e s' h => ?_
  · have hm : p.1 ∈ cs.map (·.2) := by rw [← hTc]; exact List.mem_map.mpr ⟨p, hp, rfl⟩
    obtain ⟨r, hr', er⟩ := List.mem_map.mp hm
    exact TabS.nil (by rw [← er]; exact hH r hr')
  · obtain ⟨_, _, _, _, _, _, _, _, _, _, _, _, z⟩ := h
    exact z.elim
theorem law_mkT {P : Program} {w : World} {K : PySem.W.Frag} {h : Heap} {mg : Str → Option Value} {x : Str} {st : Stmt} {f fa : Addr} {od an : Option Addr} {osl : Array (Option Value)} {oc kV doc pm cdv ct : Value} {k : Nat} {cs : List (Addr × Addr)} {T : List (Addr × Str)}
    (X : K.In h) (G : h.Ns mainGlobals mg) (hfa : mg "law" = some (.ref fa)) (a : PySem.W.nsIn K mainGlobals "law" = some (some (.ref f)))
    (l : K.lookup f = some ⟨oc, od, .func (PySem.W.fnOf "law" "law" (defArgs st) (defBody st) (defScope st) .none kV doc pm an cdv ct), osl⟩) (c : PySem.W.codeIn K cdv "law" = true) (kk : PySem.W.keepIn K (.ref f) = true)
    (b : ∀ (s : Shared) (v : Value), BindsTo s (PySem.W.fnOf "law" "law" (defArgs st) (defBody st) (defScope st) .none kV doc pm an cdv ct) ⟨[v], []⟩ [(x, v)]) (hTc : T.map (·.1) = cs.map (·.2)) (hW : ∀ p ∈ cs, TabW K mg h p.1 p.2)
    (run : ∀ (base : Heap) (fd : FuncData), (∀ p ∈ cs, TabB base mg p.1 p.2) → Fun K "law" "law" st fa fd → FnOk P w K mg base (L2.CX P w) k fa fd [x] (sp_lawT K T)) :
    ∃ (fd : FuncData) (cs : List (Addr × Addr)) (T : List (Addr × Str)), T.map (·.1) = cs.map (·.2) ∧ (∀ p ∈ cs, TabW K mg h p.1 p.2) ∧ (∀ (s : Shared) (u : Value), BindsTo s fd ⟨[u], []⟩ [(x, u)]) ∧ ∀ base : Heap, K.In base → base.Ns mainGlobals mg → (∀ p ∈ cs, TabB base mg p.1 p.2) → FnOk P w K mg base (L2.CX P w) k fa fd [x] (sp_lawT K T) := by
  have e := hfa.symm.trans (PySem.W.mg_of X G a)
  cases e
  exact ⟨_, cs, T, hTc, hW, b, fun base _ _ hB => run base _ hB (fun_mk l c kk)⟩
theorem TabW.mk' {q : Program} {loose : List Str} {mean : ExcName → Option Value} {K : PySem.W.Frag} {h : Heap} {mg mb : Str → Option Value} {d : DefRec} {x : Str} {f c Pt : Addr} {oc oc2 : Value} {od od2 : Option Addr} {fd : FuncData} {osl osl2 : Array (Option Value)} {vs : Array Value}
    (TT : PyProof.Rows.Top q loose mean mg mb h) (KX : K.In h) (hr : (recsOf q).find? (fun e => e.name == x) = some d) (a : PySem.W.nsIn K mainGlobals x = some (some (.ref f))) (l : K.lookup f = some ⟨oc, od, .func fd, osl⟩)
    (hc : fd.code = .ref c) (l2 : K.lookup c = some ⟨oc2, od2, .fields vs, osl2⟩) (hv : vs[11]? = some (.ref Pt)) (hn : K.lookup Pt = none) : TabW K mg h c Pt := by
  obtain ⟨h1, h2⟩ := PySem.W.tab_of TT KX hr (tab_mk a l hc l2 hv)
  exact ⟨h1, h2, hn⟩
section
variable {P : Program} {w : World} {K : PySem.W.Frag} {h : Heap} {mg : Str → Option Value} {x : Str} {st : Stmt} {f fa : Addr} {od an : Option Addr} {osl : Array (Option Value)} {oc kV doc pm cdv ct : Value} {k : Nat} {c1 P1 c2 P2 : Addr} {q1 q2 : Str}
theorem law_mkT2 (X : K.In h) (G : h.Ns mainGlobals mg) (hfa : mg "law" = some (.ref fa)) (w1 : TabW K mg h c1 P1) (w2 : TabW K mg h c2 P2) (a : PySem.W.nsIn K mainGlobals "law" = some (some (.ref f)))
    (l : K.lookup f = some ⟨oc, od, .func (PySem.W.fnOf "law" "law" (defArgs st) (defBody st) (defScope st) .none kV doc pm an cdv ct), osl⟩) (c : PySem.W.codeIn K cdv "law" = true) (kk : PySem.W.keepIn K (.ref f) = true)
    (b : ∀ (s : Shared) (v : Value), BindsTo s (PySem.W.fnOf "law" "law" (defArgs st) (defBody st) (defScope st) .none kV doc pm an cdv ct) ⟨[v], []⟩ [(x, v)])
    (run : ∀ (base : Heap) (fd : FuncData), TabB base mg c1 P1 → TabB base mg c2 P2 → Fun K "law" "law" st fa fd → FnOk P w K mg base (L2.CX P w) k fa fd [x] (sp_lawT K [(P1, q1), (P2, q2)])) :
    ∃ (fd : FuncData) (cs : List (Addr × Addr)) (T : List (Addr × Str)), T.map (·.1) = cs.map (·.2) ∧ (∀ p ∈ cs, TabW K mg h p.1 p.2) ∧ (∀ (s : Shared) (u : Value), BindsTo s fd ⟨[u], []⟩ [(x, u)]) ∧ ∀ base : Heap, K.In base → base.Ns mainGlobals mg → (∀ p ∈ cs, TabB base mg p.1 p.2) → FnOk P w K mg base (L2.CX P w) k fa fd [x] (sp_lawT K T) :=
  law_mkT (cs := [(c1, P1), (c2, P2)]) (T := [(P1, q1), (P2, q2)]) X G hfa a l c kk b rfl (fun p hp => by
    rcases List.mem_cons.mp hp with rfl | hp
    · exact w1
    · obtain rfl := List.mem_singleton.mp hp
      exact w2) fun base fd hB F => run base fd (hB (c1, P1) (by simp)) (hB (c2, P2) (by simp)) F
end
end RB
namespace RB
open PySem PySem.Spec PyProof.Rows L2
local macro_rules | `(tactic| walk_at "ev") => `(tactic| try simp only [tSeq, tIfS, tTest, tNot, tAnd, tOr, tB, tOp, tUn, tVar, tC, tRet, tAsg, gName, tNext, tCB, tCons, tNil, tDrop, tRaise, tChain, tChain3, tAndV, tOrV, tNotV, tIf, tCall, tFld_ap, tLc_ap, tLcR_ap, tFor_ap, tForR_ap, tForR2_ap, nTry, nTryAs, tCallS, tKnown, tBM, gSub, tSl, tNoPart, tPart, tLst, tTup, wipe,
  List.getElem?_cons_zero, List.getElem?_cons_succ, List.set_cons_zero, List.set_cons_succ, ex_some, ex_bl, ex_int, List.nil_append, List.cons_append, List.append_nil,
  nAdd_ap, nSub_ap, nLt_ap, nLe_ap, nGt_ap, nGe_ap, nMul_ap, nMulW_ap, nDiv_ap, nMod_ap, nPow_ap, nNeg_ap, nMax_ap, nMin_ap, rEq_ap, rNe_ap, nIs_ap, nIsNot_ap, dec_int_non, dec_ref_non, dec_non_non, ref_non, int_non, non_ref, non_int, isi_int_int, isi_int_bool,
  decide_eq_true_eq, Bool.not_eq_true', decide_eq_false_iff_not, decide_true, decide_false, Bool.not_true, Bool.not_false, ite_tt', ite_ff', Bool.false_eq_true, Bool.true_eq_false, not_true_eq_false, not_false_eq_true, if_true, if_false])
section
variable {K : PySem.W.Frag} {C : Addr}
def sp_joined (C : Addr) : Sp := fun vs H Q _ => ∃ (pa pb : Addr) (a b : T) (o : Int), vs = [.ref pa, .ref pb, .int o] ∧ TreeAt C H pa a ∧ TreeAt C H pb b ∧ 0 ≤ a.many ∧ 0 ≤ b.many ∧ a.many + b.many ≤ 1000000000000 ∧
  ∀ (x : Addr) (H' : Hp), Same H H' → H x = none → TreeAt C H' x (.node (a.many + b.many) (a.tot + b.tot + (a.many + b.many) * o) (min a.low b.low + o) o a b) → Q (.ref x) H'
theorem p_joined (X : Tx K C) (vs : List V) (H : Hp) (Q : VK) (E : XK) (h : sp_joined C vs H Q E) :
    t_joined K C (sp_Tree C) E { nx := fun _ H' => Q .non H', rt := Q } (start ["left", "right", "more", "many", "total"] vs) H := by
  obtain ⟨pa, pb, a, b, o, rfl, ha, hb, a0, b0, hm, q⟩ := h
  obtain ⟨dxa, La, Ra, hpa⟩ := ha.root
  obtain ⟨dxb, Lb, Rb, hpb⟩ := hb.root
  show t_joined K C (sp_Tree C) E _ [some (.ref pa), some (.ref pb), some (.int o), none, none] H
  unfold t_joined
  walk_at "ev"
  simp only [f_many X hpa]
  walk_at "ev"
  simp only [f_many X hpb]
  walk_at "ev"
  simp only [f_total X hpa]
  walk_at "ev"
  simp only [f_total X hpb]
  walk_at "ev"
  refine ⟨.inl ⟨by omega, by omega⟩, ?_⟩
  refine make_tree (m := .int (a.many + b.many)) (t := .int (a.tot + b.tot + (a.many + b.many) * o)) (l := .int (min a.low b.low + o)) (o := .int o) (L := .ref pa) (R := .ref pb) ?_ fun x dx nx s => q x _ s nx ⟨dx, pa, pb, upd_same, ha.same s, hb.same s⟩
  funext q
  walk_at "ev"
  simp only [f_least X hpa]
  walk_at "ev"
  simp only [f_least X hpb]
  walk_at "ev"
def Made (C : Addr) (H : Hp) (Q : VK) (n : Nat) (xs : List Int) : Prop := ∀ (x : Addr) (H' : Hp) (t : T), Same H H' → H x = none → TreeAt C H' x t → t.Wf → RowIs t xs → t.ht ≤ n → Q (.ref x) H'
def sp_tree_of (K : PySem.W.Frag) (C : Addr) (n : Nat) : Sp := fun vs H Q _ => ∃ (p : Addr) (xs : List Int) (m : Nat), vs = [.ref p] ∧ n = m + 1 ∧ SqL K H p (xs.map V.int) ∧ xs.length ≤ 2 ^ m ∧ xs.length ≤ 1000 ∧ Made C H Q m xs
theorem no_tree_of : ∀ vs H Q E, ¬ sp_tree_of K C 0 vs H Q E := fun vs H Q E h => by
  obtain ⟨_, _, m, _, h, _⟩ := h
  omega
theorem row_leaf {x : Int} : RowIs (.leaf 1 (1 * x) x 0) [x] := ⟨rfl, fun i z h => by
  match i, h with
  | 0, h => exact Option.some.inj h
  | i + 1, h => simp at h⟩
theorem row_none {t l o : Int} : RowIs (.leaf 0 t l o) [] := ⟨rfl, fun i z h => by simp at h⟩
theorem row_join {a b : T} {t l : Int} {xs : List Int} {k : Nat} (hk : k ≤ xs.length) (ha : RowIs a (xs.take k)) (hb : RowIs b (xs.drop k)) : RowIs (.node (a.many + b.many) t l 0 a b) xs := by
  have l1 : a.many = (k : Int) := by rw [ha.1, List.length_take]; omega
  refine ⟨?_, fun i z h => ?_⟩
  · show a.many + b.many = _
    rw [ha.1, hb.1, List.length_take, List.length_drop]
    omega
  · show (if (i : Int) < a.many then a.den i else b.den (i - a.many)) + 0 = z
    rw [Int.add_zero]
    split
    · refine ha.2 i z ?_
      rw [List.getElem?_take_of_lt (by omega)]
      exact h
    · rw [l1, show ((i : Int) - (k : Int)) = ((i - k : Nat) : Int) by omega]
      refine hb.2 (i - k) z ?_
      rw [List.getElem?_drop, show k + (i - k) = i by omega]
      exact h
theorem p_tree_of {n : Nat} (vs : List V) (H : Hp) (Q : VK) (E : XK) (h : sp_tree_of K C (n + 1) vs H Q E) :
    t_tree_of K (sp_even_tree C) (sp_tree_of K C n) (sp_joined C) E { nx := fun _ H' => Q .non H', rt := Q } (start ["numbers", "half"] vs) H := by
  obtain ⟨p, xs, m, rfl, em, hS, hz, hz2, q⟩ := h
  obtain rfl : n = m := by omega
  show t_tree_of K (sp_even_tree C) (sp_tree_of K C n) (sp_joined C) E _ [some (.ref p), none] H
  unfold t_tree_of nTru
  walk_at "ev"
  refine ⟨_, .inl ⟨_, hS, rfl⟩, ?_⟩
  cases xs with
  | nil =>
    show sp_even_tree C [.int 0, .int 0] H Q E
    exact ⟨0, 0, rfl, by omega, by omega, fun x H' s nx hT => q x H' _ s nx hT ⟨by omega, by omega⟩ row_none (Nat.zero_le _)⟩
  | cons x0 r =>
  rw [if_neg (show ¬ ((!(List.map V.int (x0 :: r)).isEmpty) = false) from fun z => by cases z)]
  refine nLen_ap hS ?_
  rw [List.length_map]
  walk_at "ev"
  split
  · rename_i h1
    have h1' : r = [] := by
      cases r with
      | nil => rfl
      | cons _ _ => rw [List.length_cons, List.length_cons] at h1; omega
    subst h1'
    refine ixL_ap (j := 0) hS rfl ?_
    exact ⟨1, x0, rfl, by omega, by omega, fun x H' s nx hT => q x H' _ s nx hT ⟨by omega, by omega⟩ row_leaf (Nat.zero_le _)⟩
  rename_i h1
  refine nLen_ap hS ?_
  rw [List.length_map]
  have h2 : 2 ≤ (x0 :: r).length := by
    rw [List.length_cons] at h1 ⊢
    omega
  generalize x0 :: r = xs at *
  clear h1
  walk_at "ev"
  refine ⟨⟨by decide, by decide⟩, ?_⟩
  generalize ek : xs.length / 2 = k
  have ek' : ((xs.length : Nat) : Int) / 2 = (k : Int) := by omega
  rw [ek']
  cases n with
  | zero => rw [Nat.pow_zero] at hz; omega
  | succ n =>
  rw [Nat.pow_succ] at hz
  refine slL_ap hS fun r1 n1 => ?_
  rw [cutV_head (by omega)]
  have s1 := same_new n1 (.lst ((xs.take k).map V.int))
  refine ⟨r1, _, n, rfl, rfl, SqL.of upd_same, by rw [List.length_take]; omega, by rw [List.length_take]; omega, fun pa H1 a s2 n2 hTa wa ra ga => ?_⟩
  walk_at "ev"
  refine slL_ap (s2.seq (s1.seq hS)) fun r2 n3 => ?_
  rw [cutV_tail (by omega)]
  have s3 := same_new n3 (.lst ((xs.drop k).map V.int))
  refine ⟨r2, _, n, rfl, rfl, SqL.of upd_same, by rw [List.length_drop]; omega, by rw [List.length_drop]; omega, fun pb H2 b s4 n4 hTb wb rb gb => ?_⟩
  walk_at "ev"
  have la := ra.1
  have lb := rb.1
  rw [List.length_take] at la
  rw [List.length_drop] at lb
  refine ⟨pa, pb, a, b, 0, rfl, (hTa.same s3).same s4, hTb, by omega, by omega, by omega, fun x H' s5 n5 hT => q x H' _ (s1.trans (s2.trans (s3.trans (s4.trans s5)))) (s1.free (s2.free (s3.free (s4.free n5)))) hT ⟨wa, wb, by omega, by omega, rfl, rfl, rfl, by omega⟩ (row_join (by omega) ra rb) ?_⟩
  show max a.ht b.ht + 1 ≤ n + 1
  omega
def sp_made (K : PySem.W.Frag) (C CN : Addr) : Sp := fun vs H Q E => ∃ (p : Addr) (xs : List Int), vs = [.ref p] ∧ SqL K H p (xs.map V.int) ∧ (xs.length ≤ 1000 → Made C H Q 10 xs) ∧ (1000 < xs.length → E (.ref CN) none H)
theorem p_made {CN : Addr} (vs : List V) (H : Hp) (Q : VK) (E : XK) (h : sp_made K C CN vs H Q E) :
    t_made K CN (sp_tree_of K C 11) E { nx := fun _ H' => Q .non H', rt := Q } (start ["numbers"] vs) H := by
  obtain ⟨p, xs, rfl, hS, q1, q2⟩ := h
  show t_made K CN (sp_tree_of K C 11) E _ [some (.ref p)] H
  unfold t_made
  walk_at "ev"
  refine nLen_ap hS ?_
  rw [List.length_map]
  walk_at "ev"
  split
  · exact q2 (by omega)
  · exact ⟨p, xs, 10, rfl, rfl, hS, by omega, by omega, q1 (by omega)⟩
def sp_total_in (C : Addr) (n : Nat) : Sp := fun vs H Q _ => ∃ (p : Addr) (t : T) (lo hi : Int), vs = [.ref p, .int lo, .int hi] ∧ TreeAt C H p t ∧ t.Wf ∧ t.ht < n ∧ t.many ≤ 1000000000000 ∧ Q (.int (cut t lo hi).sum) H
theorem no_total_in : ∀ vs H Q E, ¬ sp_total_in C 0 vs H Q E := fun vs H Q E h => by
  obtain ⟨_, t, _, _, _, _, _, h, _⟩ := h
  omega
theorem p_total_in (X : Tx K C) {n : Nat} (vs : List V) (H : Hp) (Q : VK) (E : XK) (h : sp_total_in C (n + 1) vs H Q E) :
    t_total_in K (sp_total_in C n) E { nx := fun _ H' => Q .non H', rt := Q } (start ["tree", "low", "high", "half", "ahead", "behind"] vs) H := by
  obtain ⟨p, t, lo, hi, rfl, hT, wf, hh, hz, q⟩ := h
  show t_total_in K (sp_total_in C n) E _ [some (.ref p), some (.int lo), some (.int hi), none, none, none] H
  unfold t_total_in
  obtain ⟨dx, L, R, hp⟩ := hT.root
  walk_at "ev"
  simp only [f_many X hp]
  walk_at "ev"
  have nn := wf.nn
  split
  · rename_i hc
    rw [cut_none hc] at q
    exact q
  rename_i hc
  simp only [f_many X hp]
  walk_at "ev"
  split
  · rename_i h1
    simp only [f_total X hp]
    rw [cut_whole h1 nn (by omega), cut_tot wf] at q
    exact q
  rename_i h1
  cases t with
  | leaf m t l o =>
    obtain ⟨dx, hp⟩ := hT
    have hc' : ¬ min hi m ≤ max lo 0 := hc
    have hz' : m ≤ 1000000000000 := hz
    have nn' : 0 ≤ m := nn
    simp only [f_left X hp]
    walk_at "ev"
    simp only [f_least X hp]
    walk_at "ev"
    show CMul (min hi m - max lo 0) l ∧ Q (.int ((min hi m - max lo 0) * l)) H
    refine ⟨.inl ⟨by omega, by omega⟩, ?_⟩
    rw [cut_leaf, sum_replicate, show (((min hi m - max lo 0).toNat : Nat) : Int) = min hi m - max lo 0 by omega] at q
    exact q
  | node m t l o a b =>
    obtain ⟨dx, pa, pb, hp, ha, hb⟩ := hT
    obtain ⟨wa, wb, a0, b0, em, et, el⟩ := wf
    have hc' : ¬ min hi m ≤ max lo 0 := hc
    have hz' : m ≤ 1000000000000 := hz
    have hh' : max a.ht b.ht + 1 < n + 1 := hh
    obtain ⟨dxa, La, Ra, hpa⟩ := ha.root
    simp only [f_left X hp]
    walk_at "ev"
    simp only [f_many X hpa, f_left X hp]
    refine ⟨pa, a, _, _, rfl, ha, wa, by omega, by omega, ?_⟩
    walk_at "ev"
    simp only [f_right X hp]
    walk_at "ev"
    refine ⟨pb, b, _, _, rfl, hb, wb, by omega, by omega, ?_⟩
    walk_at "ev"
    simp only [f_more X hp]
    walk_at "ev"
    refine ⟨.inl ⟨by show _ < min hi m - max lo 0; omega, by show min hi m - max lo 0 < _; omega⟩, ?_⟩
    have l1 := cut_len a (max lo 0) (min hi m)
    have l2 := cut_len b (max lo 0 - a.many) (min hi m - a.many)
    rw [cut_node (by omega) (by omega) em, sum_map_add, List.sum_append, List.length_append, l1, l2] at q
    rw [show ((((min (min hi m) a.many - max (max lo 0) 0).toNat + (min (min hi m - a.many) b.many - max (max lo 0 - a.many) 0).toNat : Nat)) : Int) = min hi m - max lo 0 by omega] at q
    exact q
def sp_total (C CO : Addr) (n : Nat) : Sp := fun vs H Q E => ∃ (p : Addr) (t : T) (lo hi : Int), vs = [.ref p, .int lo, .int hi] ∧ TreeAt C H p t ∧ t.Wf ∧ t.ht < n ∧ t.many ≤ 1000000000000 ∧
  ((0 ≤ lo ∧ lo ≤ hi ∧ hi ≤ t.many) → Q (.int (seg t.den lo (hi - lo).toNat).sum) H) ∧ (¬ (0 ≤ lo ∧ lo ≤ hi ∧ hi ≤ t.many) → E (.ref CO) none H)
theorem p_total {CO : Addr} {n : Nat} (vs : List V) (H : Hp) (Q : VK) (E : XK) (h : sp_total C CO n vs H Q E) :
    t_total (sp_check_stretch C CO) (sp_total_in C n) E { nx := fun _ H' => Q .non H', rt := Q } (start ["book", "low", "high"] vs) H := by
  obtain ⟨p, t, lo, hi, rfl, hT, wf, hh, hz, q1, q2⟩ := h
  show t_total (sp_check_stretch C CO) (sp_total_in C n) E _ [some (.ref p), some (.int lo), some (.int hi)] H
  unfold t_total
  walk_at "ev"
  refine ⟨p, t, lo, hi, rfl, hT, fun hc => ⟨p, t, lo, hi, rfl, hT, wf, hh, hz, ?_⟩, q2⟩
  have := q1 hc
  unfold cut
  rw [show max lo 0 = lo by omega, show min hi t.many = hi by omega]
  exact this
def sp_first_in (C : Addr) (n : Nat) : Sp := fun vs H Q _ => ∃ (p : Addr) (t : T) (lo b : Int), vs = [.ref p, .int lo, .int b] ∧ TreeAt C H p t ∧ t.Wf ∧ t.ht < n ∧ (0 < t.many ∨ 0 ≤ lo) ∧ ∀ r, IsFirst t lo b r → Q (optV r) H
theorem no_first_in : ∀ vs H Q E, ¬ sp_first_in C 0 vs H Q E := fun vs H Q E h => by
  obtain ⟨_, t, _, _, _, _, _, h, _⟩ := h
  omega
theorem p_first_in (X : Tx K C) {n : Nat} (vs : List V) (H : Hp) (Q : VK) (E : XK) (h : sp_first_in C (n + 1) vs H Q E) :
    t_first_in K (sp_first_in C n) E { nx := fun _ H' => Q .non H', rt := Q } (start ["tree", "low", "bound", "at", "half"] vs) H := by
  obtain ⟨p, t, lo, b, rfl, hT, wf, hh, hz, q⟩ := h
  show t_first_in K (sp_first_in C n) E _ [some (.ref p), some (.int lo), some (.int b), none, none] H
  unfold t_first_in
  obtain ⟨dx, L, R, hp⟩ := hT.root
  walk_at "ev"
  simp only [f_many X hp]
  walk_at "ev"
  simp only [f_least X hp]
  walk_at "ev"
  have nn := wf.nn
  split
  · exact q none fun i h0 h1 => by omega
  rename_i h1
  split
  · rename_i h2
    exact q none fun i h0 h1 => by
      have := low_le (i := i) wf (by omega) h1
      omega
  rename_i h2
  cases t with
  | leaf m t l o =>
    obtain ⟨dx, hp⟩ := hT
    have h1' : ¬ m ≤ lo := h1
    have h2' : ¬ b < l := h2
    have nn' : 0 ≤ m := nn
    have hz' : 0 < m ∨ 0 ≤ lo := hz
    simp only [f_left X hp]
    walk_at "ev"
    refine q (some (max lo 0)) ⟨Int.le_refl _, ?_, ?_, fun i h0 h1 => by omega⟩
    · show max lo 0 < m
      omega
    · show l ≤ b
      omega
  | node m t l o a c =>
    obtain ⟨dx, pa, pb, hp, ha, hb⟩ := hT
    obtain ⟨wa, wb, a0, b0, em, et, el⟩ := wf
    have h1' : ¬ m ≤ lo := h1
    have h2' : ¬ b < l := h2
    have hh' : max a.ht c.ht + 1 < n + 1 := hh
    obtain ⟨dxa, La, Ra, hpa⟩ := ha.root
    simp only [f_left X hp]
    walk_at "ev"
    simp only [f_more X hp]
    walk_at "ev"
    refine ⟨pa, a, _, _, rfl, ha, wa, by omega, .inl a0, fun r hr => ?_⟩
    have den : ∀ i, (T.node m t l o a c).den i = (if i < a.many then a.den i else c.den (i - a.many)) + o := fun _ => rfl
    cases r with
    | some k =>
      obtain ⟨k1, k2, k3, k4⟩ := hr
      simp only [optV]
      walk_at "ev"
      refine q (some k) ⟨k1, by show k < m; omega, ?_, fun i i0 i1 => ?_⟩
      · rw [den, if_pos k2]
        omega
      · have := k4 i i0 i1
        rw [den, if_pos (by omega)]
        omega
    | none =>
      simp only [optV]
      walk_at "ev"
      simp only [f_left X hp]
      walk_at "ev"
      simp only [f_many X hpa]
      walk_at "ev"
      simp only [f_right X hp]
      walk_at "ev"
      simp only [f_more X hp]
      walk_at "ev"
      refine ⟨pb, c, _, _, rfl, hb, wb, by omega, .inl b0, fun r hr2 => ?_⟩
      have hr' : ∀ i, max lo 0 ≤ i → i < a.many → b - o < a.den i := hr
      cases r with
      | none =>
        simp only [optV]
        walk_at "ev"
        have hr2' : ∀ i, max (lo - a.many) 0 ≤ i → i < c.many → b - o < c.den i := hr2
        refine q none fun i i0 i1 => ?_
        have i1' : i < m := i1
        rw [den]
        split
        · have := hr' i i0 (by omega)
          omega
        · have := hr2' (i - a.many) (by omega) (by omega)
          omega
      | some k =>
        obtain ⟨k1, k2, k3, k4⟩ := hr2
        simp only [optV]
        walk_at "ev"
        refine q (some (a.many + k)) ⟨by omega, by show a.many + k < m; omega, ?_, fun i i0 i1 => ?_⟩
        · rw [den, if_neg (by omega), show a.many + k - a.many = k by omega]
          omega
        · rw [den]
          split
          · have := hr' i i0 (by omega)
            omega
          · have := k4 (i - a.many) (by omega) (by omega)
            omega
def sp_first (C CO : Addr) (n : Nat) : Sp := fun vs H Q E => ∃ (p : Addr) (t : T) (lo b : Int), vs = [.ref p, .int lo, .int b] ∧ TreeAt C H p t ∧ t.Wf ∧ t.ht < n ∧
  ((0 ≤ lo ∧ lo ≤ t.many) → ∀ r, IsFirst t lo b r → Q (optV r) H) ∧ (¬ (0 ≤ lo ∧ lo ≤ t.many) → E (.ref CO) none H)
theorem p_first (X : Tx K C) {CO : Addr} {n : Nat} (vs : List V) (H : Hp) (Q : VK) (E : XK) (h : sp_first C CO n vs H Q E) :
    t_first K (sp_check_stretch C CO) (sp_first_in C n) E { nx := fun _ H' => Q .non H', rt := Q } (start ["book", "low", "bound"] vs) H := by
  obtain ⟨p, t, lo, b, rfl, hT, wf, hh, q1, q2⟩ := h
  obtain ⟨dx, L, R, hp⟩ := hT.root
  show t_first K (sp_check_stretch C CO) (sp_first_in C n) E _ [some (.ref p), some (.int lo), some (.int b)] H
  unfold t_first
  walk_at "ev"
  simp only [f_many X hp]
  refine ⟨p, t, lo, t.many, rfl, hT, fun hc => ⟨p, t, lo, b, rfl, hT, wf, hh, .inr hc.1, fun r hr => q1 ⟨hc.1, hc.2.1⟩ r hr⟩, fun hc => q2 fun z => hc ⟨z.1, z.2, Int.le_refl _⟩⟩
end
end RB
namespace RB
open PySem PySem.Spec PyProof.Rows L2
local macro_rules | `(tactic| walk_at "ev") => `(tactic| try simp only [tSeq, tIfS, tTest, tNot, tAnd, tOr, tB, tOp, tUn, tVar, tC, tRet, tAsg, gName, tNext, tCB, tCons, tNil, tDrop, tRaise, tChain, tChain3, tAndV, tOrV, tNotV, tIf, tCall, tFld_ap, tLc_ap, tLcR_ap, tFor_ap, tForR_ap, tForR2_ap, nTry, nTryAs, tCallS, tKnown, tBM, gSub, tSl, tNoPart, tPart, tLst, tTup, wipe,
  List.getElem?_cons_zero, List.getElem?_cons_succ, List.set_cons_zero, List.set_cons_succ, ex_some, ex_bl, ex_int, List.nil_append, List.cons_append, List.append_nil,
  nAdd_ap, nSub_ap, nLt_ap, nLe_ap, nGt_ap, nGe_ap, nMul_ap, nMulW_ap, nDiv_ap, nMod_ap, nPow_ap, nNeg_ap, nMax_ap, nMin_ap, rEq_ap, rNe_ap, nIs_ap, nIsNot_ap, dec_int_non, dec_ref_non, dec_non_non, ref_non, int_non, non_ref, non_int, isi_int_int, isi_int_bool,
  decide_eq_true_eq, Bool.not_eq_true', decide_eq_false_iff_not, decide_true, decide_false, Bool.not_true, Bool.not_false, ite_tt', ite_ff', Bool.false_eq_true, Bool.true_eq_false, not_true_eq_false, not_false_eq_true, if_true, if_false])
def nLcT (K : PySem.W.Frag) (tt : TT) (elt : TE) (i : Nat) (σ : L2.St) (x : V) (H : Hp) (Q : VK) : Prop := tLc (iTup K (tC x)) (gName i) tt elt [i] σ H Q
theorem tLcT_ap {K : PySem.W.Frag} {te elt : TE} {tt : TT} {i : Nat} {σ : L2.St} {H : Hp} {Q : VK} : tLc (iTup K te) (gName i) tt elt [i] σ H Q = te σ H fun x H1 => nLcT K tt elt i σ x H1 Q := rfl
theorem lc_some {K : PySem.W.Frag} {i : Nat} {σ : L2.St} {H1 : Hp} {Q : VK} {a : Addr} {xs : List (Option Int)} (hi : i < σ.length) (hs : SqT K H1 a (xs.map optV)) (hz : xs.length ≤ 1000)
    (q : ∀ (D : Addr) (H' : Hp), Same H1 H' → H1 D = none → H' D = some (.lst ((xs.filterMap id).map V.int)) → Q (.ref D) H') : nLcT K (tTest (tOp nIsNot (tVar i) (tC .non))) (tVar i) i σ (.ref a) H1 Q := by
  refine ⟨a, rfl, ⟨_, hs⟩, fun D hD => lc_tup (K := K) (a := a) (xs := xs.map optV) (fun k H' => Same H1 H' ∧ H' D = some (.lst (((xs.take k).filterMap id).map V.int))) ?_ ?_ ?_ ?_⟩
  · exact ⟨same_new hD _, upd_same⟩
  · rintro k H' _ ⟨s, _⟩
    rcases hs with (h | ⟨o, h⟩) | h
    · exact .inl (.inl (s _ _ h))
    · exact .inl (.inr ⟨o, s _ _ h⟩)
    · exact .inr h
  · rintro k x H' hx ⟨s, hd⟩
    rw [List.getElem?_map] at hx
    cases ek : xs[k]? with
    | none => rw [ek] at hx; cases hx
    | some z =>
      rw [ek] at hx
      cases hx
      have hk : k < xs.length := (List.getElem?_eq_some_iff.mp ek).1
      refine ⟨wipe_one, ?_⟩
      have hv : ((wipe σ [i]).set i (some (optV z)))[i]? = some (some (optV z)) := List.getElem?_set_self (by simp [wipe, List.length_set, hi])
      refine ⟨optV z, hv, rfl, _, rfl, ?_⟩
      cases z with
      | none =>
        refine iteF ?_
        refine ⟨s, ?_⟩
        rw [take_more ek, List.filterMap_append, hd]
        simp
      | some z =>
        refine iteT ?_
        refine ⟨_, hv, _, hd, ?_, ?_, ?_⟩
        · rw [List.length_map]
          have := List.length_filterMap_le id (xs.take k)
          rw [List.length_take] at this
          exact size_of (by omega)
        · intro b u w
          rw [upd_ne (ne_of_none w hD)]
          exact s b u w
        · rw [upd_same, take_more ek, List.filterMap_append, List.map_append]
          rfl
  · rintro H' ⟨s, hd⟩
    rw [List.length_map, List.take_length] at hd
    exact q D H' s hD hd
def LeastF (f : Int → Int) (lo hi m : Int) : Prop := (∃ i, lo ≤ i ∧ i < hi ∧ f i = m) ∧ ∀ i, lo ≤ i → i < hi → m ≤ f i
def IsLeast (t : T) (lo hi : Int) : Option Int → Prop
  | none => min hi t.many ≤ max lo 0
  | some m => LeastF t.den (max lo 0) (min hi t.many) m
theorem low_is : ∀ {t : T}, t.Wf → 0 < t.many → LeastF t.den 0 t.many t.low
  | .leaf m t l o, _, h => ⟨⟨0, Int.le_refl _, h, rfl⟩, fun _ _ _ => Int.le_refl _⟩
  | .node m t l o a b, w, h => by
    refine ⟨?_, fun i i0 i1 => low_le w i0 i1⟩
    obtain ⟨wa, wb, ha, hb, hm, ht, hl⟩ := w
    obtain ⟨⟨i, i0, i1, ei⟩, _⟩ := low_is wa ha
    obtain ⟨⟨j, j0, j1, ej⟩, _⟩ := low_is wb hb
    have den : ∀ i, (T.node m t l o a b).den i = (if i < a.many then a.den i else b.den (i - a.many)) + o := fun _ => rfl
    show ∃ i, 0 ≤ i ∧ i < m ∧ _ = l
    by_cases z : a.low ≤ b.low
    · refine ⟨i, i0, by omega, ?_⟩
      rw [den, if_pos i1, ei]
      omega
    · refine ⟨a.many + j, by omega, by omega, ?_⟩
      rw [den, if_neg (by omega), show a.many + j - a.many = j by omega, ej]
      omega
section
variable {K : PySem.W.Frag} {C : Addr}
def sp_least_in (C : Addr) (n : Nat) : Sp := fun vs H Q _ => ∃ (p : Addr) (t : T) (lo hi : Int), vs = [.ref p, .int lo, .int hi] ∧ TreeAt C H p t ∧ t.Wf ∧ t.ht < n ∧ ∀ (H' : Hp) (r : Option Int), Same H H' → IsLeast t lo hi r → Q (optV r) H'
theorem no_least_in : ∀ vs H Q E, ¬ sp_least_in C 0 vs H Q E := fun vs H Q E h => by
  obtain ⟨_, t, _, _, _, _, _, h, _⟩ := h
  omega
theorem p_least_in (X : Tx K C) {n : Nat} (vs : List V) (H : Hp) (Q : VK) (E : XK) (h : sp_least_in C (n + 1) vs H Q E) :
    t_least_in K (sp_least_in C n) E { nx := fun _ H' => Q .non H', rt := Q } (start ["tree", "low", "high", "half", "ahead", "behind", "number"] vs) H := by
  obtain ⟨p, t, lo, hi, rfl, hT, wf, hh, q⟩ := h
  show t_least_in K (sp_least_in C n) E _ [some (.ref p), some (.int lo), some (.int hi), none, none, none, none] H
  unfold t_least_in
  obtain ⟨dx, L, R, hp⟩ := hT.root
  walk_at "ev"
  simp only [f_many X hp]
  walk_at "ev"
  have nn := wf.nn
  split
  · rename_i hc
    exact q H none (Same.refl H) hc
  rename_i hc
  have whole : min hi t.many - max lo 0 = t.many → Q (.int t.low) H := fun h => by
    refine q H (some t.low) (Same.refl H) ?_
    have := low_is wf (by omega)
    show LeastF t.den (max lo 0) (min hi t.many) t.low
    rw [show max lo 0 = 0 by omega, show min hi t.many = t.many by omega]
    exact this
  cases t with
  | leaf m t l o =>
    obtain ⟨dx, hp⟩ := hT
    have hc' : ¬ min hi m ≤ max lo 0 := hc
    simp only [f_left X hp]
    walk_at "ev"
    simp only [f_least X hp]
    refine q H (some l) (Same.refl H) ⟨⟨max lo 0, Int.le_refl _, ?_, rfl⟩, fun _ _ _ => Int.le_refl _⟩
    show max lo 0 < min hi m
    omega
  | node m t l o a b =>
    obtain ⟨dx, pa, pb, hp, ha, hb⟩ := hT
    obtain ⟨wa, wb, a0, b0, em, et, el⟩ := wf
    have hc' : ¬ min hi m ≤ max lo 0 := hc
    have hh' : max a.ht b.ht + 1 < n + 1 := hh
    obtain ⟨dxa, La, Ra, hpa⟩ := ha.root
    simp only [f_left X hp]
    walk_at "ev"
    simp only [f_many X hp]
    walk_at "ev"
    split
    · rename_i hw
      simp only [f_least X hp]
      exact whole hw
    simp only [f_left X hp]
    walk_at "ev"
    simp only [f_many X hpa]
    try simp only [f_left X hp]
    walk_at "ev"
    refine ⟨pa, a, _, _, rfl, ha, wa, by omega, fun H1 r1 s1 hr1 => ?_⟩
    have hp1 := s1 _ _ hp
    simp only [f_right X hp1]
    walk_at "ev"
    refine ⟨pb, b, _, _, rfl, hb.same s1, wb, by omega, fun H2 r2 s2 hr2 => ?_⟩
    have hp2 := s2 _ _ hp1
    simp only [tLcT_ap]
    walk_at "ev"
    refine ⟨(by show 2 ≤ sizeLine; decide), fun tp ntp => ?_⟩
    have s3 := same_new ntp (.tup [optV r1, optV r2])
    refine lc_some (xs := [r1, r2]) (by show 6 < 7; decide) (SqT.of upd_same) (by show 2 ≤ 1000; decide) fun D H4 s4 n4 e4 => ?_
    have hp4 := s4 _ _ (s3 _ _ hp2)
    walk_at "ev"
    have den : ∀ i, (T.node m t l o a b).den i = (if i < a.many then a.den i else b.den (i - a.many)) + o := fun _ => rfl
    have fin : ∀ z : Int, LeastF (T.node m t l o a b).den (max lo 0) (min hi m) (z + o) → (nFld K "more" (.ref p) H4 fun y H2 => nAdd (.int z) y H2 Q) := fun z hz => by
      simp only [f_more X hp4]
      walk_at "ev"
      exact q H4 (some (z + o)) (s1.trans (s2.trans (s3.trans s4))) hz
    -- which of the two parts has places
    have ga : ∀ z, LeastF a.den (max (max lo 0) 0) (min (min hi m) a.many) z → ∀ i, max lo 0 ≤ i → i < min hi m → i < a.many → z + o ≤ (T.node m t l o a b).den i := fun z hz i i0 i1 i2 => by
      rw [den, if_pos i2]
      have := hz.2 i (by omega) (by omega)
      omega
    have gb : ∀ z, LeastF b.den (max (max lo 0 - a.many) 0) (min (min hi m - a.many) b.many) z → ∀ i, max lo 0 ≤ i → i < min hi m → ¬ i < a.many → z + o ≤ (T.node m t l o a b).den i := fun z hz i i0 i1 i2 => by
      rw [den, if_neg i2]
      have := hz.2 (i - a.many) (by omega) (by omega)
      omega
    have wa' : ∀ z, LeastF a.den (max (max lo 0) 0) (min (min hi m) a.many) z → ∃ i, max lo 0 ≤ i ∧ i < min hi m ∧ (T.node m t l o a b).den i = z + o := fun z hz => by
      obtain ⟨⟨i, i0, i1, e⟩, _⟩ := hz
      exact ⟨i, by omega, by omega, by rw [den, if_pos (by omega), e]⟩
    have wb' : ∀ z, LeastF b.den (max (max lo 0 - a.many) 0) (min (min hi m - a.many) b.many) z → ∃ i, max lo 0 ≤ i ∧ i < min hi m ∧ (T.node m t l o a b).den i = z + o := fun z hz => by
      obtain ⟨⟨i, i0, i1, e⟩, _⟩ := hz
      exact ⟨i + a.many, by omega, by omega, by rw [den, if_neg (by omega), show i + a.many - a.many = i by omega, e]⟩
    cases r1 with
    | none =>
      have h1 : min (min hi m) a.many ≤ max (max lo 0) 0 := hr1
      cases r2 with
      | none =>
        have h2 : min (min hi m - a.many) b.many ≤ max (max lo 0 - a.many) 0 := hr2
        omega
      | some z =>
        refine ⟨D, [z], rfl, SqL.of e4, (by show 0 < 1; decide), fun w hw hle => ?_⟩
        obtain rfl : w = z := by simpa using hw
        exact fin w ⟨wb' w hr2, fun i i0 i1 => gb w hr2 i i0 i1 (by omega)⟩
    | some y =>
      cases r2 with
      | none =>
        have h2 : min (min hi m - a.many) b.many ≤ max (max lo 0 - a.many) 0 := hr2
        refine ⟨D, [y], rfl, SqL.of e4, (by show 0 < 1; decide), fun w hw hle => ?_⟩
        obtain rfl : w = y := by simpa using hw
        exact fin w ⟨wa' w hr1, fun i i0 i1 => ga w hr1 i i0 i1 (by omega)⟩
      | some z =>
        refine ⟨D, [y, z], rfl, SqL.of e4, (by show 0 < 2; decide), fun w hw hle => ?_⟩
        have hwy := hle y (by simp)
        have hwz := hle z (by simp)
        refine fin w ⟨?_, fun i i0 i1 => ?_⟩
        · rcases List.mem_cons.mp hw with rfl | hw
          · exact wa' w hr1
          · obtain rfl : w = z := by simpa using hw
            exact wb' w hr2
        · by_cases z2 : i < a.many
          · have := ga y hr1 i i0 i1 z2
            omega
          · have := gb z hr2 i i0 i1 z2
            omega
def sp_least (C CO CZ : Addr) (n : Nat) : Sp := fun vs H Q E => ∃ (p : Addr) (t : T) (lo hi : Int), vs = [.ref p, .int lo, .int hi] ∧ TreeAt C H p t ∧ t.Wf ∧ t.ht < n ∧
  ((0 ≤ lo ∧ lo < hi ∧ hi ≤ t.many) → ∀ (H' : Hp) (m : Int), Same H H' → LeastF t.den lo hi m → Q (.int m) H') ∧ (¬ (0 ≤ lo ∧ lo ≤ hi ∧ hi ≤ t.many) → E (.ref CO) none H) ∧ ((0 ≤ lo ∧ lo = hi ∧ hi ≤ t.many) → E (.ref CZ) none H)
theorem p_least {CO CZ : Addr} {n : Nat} (vs : List V) (H : Hp) (Q : VK) (E : XK) (h : sp_least C CO CZ n vs H Q E) :
    t_least CZ (sp_check_stretch C CO) (sp_least_in C n) E { nx := fun _ H' => Q .non H', rt := Q } (start ["book", "low", "high"] vs) H := by
  obtain ⟨p, t, lo, hi, rfl, hT, wf, hh, q1, q2, q3⟩ := h
  show t_least CZ (sp_check_stretch C CO) (sp_least_in C n) E _ [some (.ref p), some (.int lo), some (.int hi)] H
  unfold t_least
  walk_at "ev"
  refine ⟨p, t, lo, hi, rfl, hT, fun hc => ?_, q2⟩
  split
  · exact q3 (by omega)
  · refine ⟨p, t, lo, hi, rfl, hT, wf, hh, fun H' r s hr => ?_⟩
    cases r with
    | none =>
      have : min hi t.many ≤ max lo 0 := hr
      omega
    | some m =>
      have h2 : LeastF t.den (max lo 0) (min hi t.many) m := hr
      rw [show max lo 0 = lo by omega, show min hi t.many = hi by omega] at h2
      exact q1 (by omega) H' m s h2
def PlaceF (f : Int → Int) (lo hi k : Int) : Prop := lo ≤ k ∧ k < hi ∧ (∀ i, lo ≤ i → i < hi → f k ≤ f i) ∧ ∀ i, lo ≤ i → i < k → f k < f i
def sp_place (C CO CZ : Addr) (n : Nat) : Sp := fun vs H Q E => ∃ (p : Addr) (t : T) (lo hi : Int), vs = [.ref p, .int lo, .int hi] ∧ TreeAt C H p t ∧ t.Wf ∧ t.ht < n ∧
  ((0 ≤ lo ∧ lo < hi ∧ hi ≤ t.many) → ∀ (H' : Hp) (k : Int), Same H H' → PlaceF t.den lo hi k → Q (.int k) H') ∧ (¬ (0 ≤ lo ∧ lo ≤ hi ∧ hi ≤ t.many) → E (.ref CO) none H) ∧ ((0 ≤ lo ∧ lo = hi ∧ hi ≤ t.many) → E (.ref CZ) none H)
theorem p_place {CO CZ : Addr} {n : Nat} (vs : List V) (H : Hp) (Q : VK) (E : XK) (h : sp_place C CO CZ n vs H Q E) :
    t_place (sp_least C CO CZ n) (sp_first_in C n) E { nx := fun _ H' => Q .non H', rt := Q } (start ["book", "low", "high"] vs) H := by
  obtain ⟨p, t, lo, hi, rfl, hT, wf, hh, q1, q2, q3⟩ := h
  show t_place (sp_least C CO CZ n) (sp_first_in C n) E _ [some (.ref p), some (.int lo), some (.int hi)] H
  unfold t_place
  walk_at "ev"
  refine ⟨p, t, lo, hi, rfl, hT, wf, hh, fun hc H' m s hm => ?_, q2, q3⟩
  walk_at "ev"
  refine ⟨p, t, lo, m, rfl, hT.same s, wf, hh, .inr hc.1, fun r hr => ?_⟩
  obtain ⟨⟨i, i0, i1, ei⟩, hle⟩ := hm
  cases r with
  | none =>
    have := hr i (by omega) (by omega)
    omega
  | some k =>
    obtain ⟨k0, k1, k2, k3⟩ := hr
    have ki : k ≤ i := by
      by_cases z : i < k
      · have := k3 i (by omega) z
        omega
      · omega
    have e : t.den k = m := by
      have := hle k (by omega) (by omega)
      omega
    exact q1 hc H' k s ⟨by omega, by omega, fun j j0 j1 => by rw [e]; exact hle j j0 j1, fun j j0 j1 => by rw [e]; exact k3 j (by omega) j1⟩
end
end RB
namespace RB
open PySem PySem.Spec PyProof.Rows L2 LamX NdefX
local macro_rules | `(tactic| walk_at "ev") => `(tactic| try simp only [tSeq, tIfS, tTest, tNot, tAnd, tOr, tB, tOp, tUn, tVar, tC, tRet, tAsg, gName, tNext, tCB, tCons, tNil, tDrop, tRaise, tChain, tChain3, tAndV, tOrV, tNotV, tIf, tCall, tFld_ap, tLc_ap, tLcR_ap, tFor_ap, tForR_ap, tForR2_ap, nTry, nTryAs, tCallS, tKnown, tBM, gSub, tSl, tNoPart, tPart, tLst, tTup, wipe,
  List.getElem?_cons_zero, List.getElem?_cons_succ, List.set_cons_zero, List.set_cons_succ, ex_some, ex_bl, ex_int, List.nil_append, List.cons_append, List.append_nil,
  nAdd_ap, nSub_ap, nLt_ap, nLe_ap, nGt_ap, nGe_ap, nMul_ap, nMulW_ap, nDiv_ap, nMod_ap, nPow_ap, nNeg_ap, nMax_ap, nMin_ap, rEq_ap, rNe_ap, nIs_ap, nIsNot_ap, dec_int_non, dec_ref_non, dec_non_non, ref_non, int_non, non_ref, non_int, isi_int_int, isi_int_bool,
  decide_eq_true_eq, Bool.not_eq_true', decide_eq_false_iff_not, decide_true, decide_false, Bool.not_true, Bool.not_false, ite_tt', ite_ff', Bool.false_eq_true, Bool.true_eq_false, not_true_eq_false, not_false_eq_true, if_true, if_false])
section
variable {K : PySem.W.Frag} {C : Addr}
theorem ht_le : ∀ {t : T} {n : Nat}, t.Wf → t.many ≤ 2 ^ n → t.ht ≤ n
  | .leaf _ _ _ _, _, _, _ => Nat.zero_le _
  | .node m t l o a b, n, h, hm => by
    obtain ⟨wa, wb, a0, b0, em, et, el, eh⟩ := h
    have hm' : m ≤ 2 ^ n := hm
    cases n with
    | zero => rw [Int.pow_zero] at hm'; omega
    | succ n =>
      rw [Int.pow_succ] at hm'
      have ha : a.ht ≤ n := ht_le wa (by omega)
      have hb : b.ht ≤ n := ht_le wb (by omega)
      show max a.ht b.ht + 1 ≤ n + 1
      omega
theorem ht_41 {t : T} (h : t.Wf) (hm : t.many ≤ 1000000000000) : t.ht < 41 := by
  have := ht_le (n := 40) h (Int.le_trans hm (by decide))
  omega
def sp_raised (C : Addr) : Sp := fun vs H Q _ => ∃ (p : Addr) (t : T) (b : Int), vs = [.ref p, .int b] ∧ TreeAt C H p t ∧ t.Wf ∧ t.many ≤ 1000000000000 ∧
  ∀ (x : Addr) (H' : Hp) (t' : T), Same H H' → H x = none → TreeAt C H' x t' → t'.Wf → t'.many = t.many → (∀ i, t'.den i = t.den i + b) → Q (.ref x) H'
theorem p_raised (X : Tx K C) (vs : List V) (H : Hp) (Q : VK) (E : XK) (h : sp_raised C vs H Q E) :
    t_raised K (sp_even_tree C) (sp_joined C) E { nx := fun _ H' => Q .non H', rt := Q } (start ["tree", "by"] vs) H := by
  obtain ⟨p, t, b, rfl, hT, wf, hm, q⟩ := h
  show t_raised K (sp_even_tree C) (sp_joined C) E _ [some (.ref p), some (.int b)] H
  unfold t_raised
  cases t with
  | leaf m t l o =>
    obtain ⟨dx, hp⟩ := hT
    obtain ⟨⟨h0, ho⟩, ht⟩ := wf
    walk_at "ev"
    simp only [f_left X hp]
    walk_at "ev"
    simp only [f_many X hp, f_least X hp]
    walk_at "ev"
    exact ⟨m, l + b, rfl, h0, hm, fun x H' s n hx => q x H' _ s n hx ⟨⟨h0, rfl⟩, rfl⟩ rfl fun i => rfl⟩
  | node m t l o a c =>
    obtain ⟨dx, pa, pb, hp, ha, hb⟩ := hT
    obtain ⟨wa, wb, a0, b0, em, et, el, eh⟩ := wf
    have hm' : m ≤ 1000000000000 := hm
    walk_at "ev"
    simp only [f_left X hp]
    walk_at "ev"
    simp only [f_left X hp, f_right X hp, f_more X hp]
    walk_at "ev"
    refine ⟨pa, pb, a, c, o + b, rfl, ha, hb, by omega, by omega, by omega, fun x H' s n hx => q x H' _ s n hx ⟨wa, wb, a0, b0, rfl, rfl, rfl, by omega⟩ em.symm fun i => ?_⟩
    show _ + (o + b) = _ + o + b
    omega
def sp_halves (C : Addr) : Sp := fun vs H Q _ => ∃ (p : Addr) (t : T), vs = [.ref p] ∧ TreeAt C H p t ∧ t.Wf ∧ 2 ≤ t.many ∧ t.many ≤ 1000000000000 ∧
  ∀ (r : Addr) (H' : Hp) (pa pb : Addr) (a b : T), Same H H' → H' r = some (.tup [.ref pa, .ref pb]) → TreeAt C H' pa a → TreeAt C H' pb b → a.Wf → b.Wf → a.many = t.many / 2 → b.many = t.many - t.many / 2 →
    (∀ i, t.den i = (if i < a.many then a.den i else b.den (i - a.many)) + t.more) → Q (.ref r) H'
theorem p_halves (X : Tx K C) (vs : List V) (H : Hp) (Q : VK) (E : XK) (h : sp_halves C vs H Q E) :
    t_halves K (sp_even_tree C) E { nx := fun _ H' => Q .non H', rt := Q } (start ["tree", "half"] vs) H := by
  obtain ⟨p, t, rfl, hT, wf, h2, hm, q⟩ := h
  show t_halves K (sp_even_tree C) E _ [some (.ref p), none] H
  unfold t_halves
  cases t with
  | leaf m t l o =>
    obtain ⟨dx, hp⟩ := hT
    obtain ⟨⟨h0, ho⟩, ht⟩ := wf
    have h2' : 2 ≤ m := h2
    have hm' : m ≤ 1000000000000 := hm
    walk_at "ev"
    simp only [f_left X hp]
    walk_at "ev"
    simp only [f_many X hp]
    walk_at "ev"
    refine ⟨⟨by decide, by decide⟩, ?_⟩
    simp only [f_least X hp]
    walk_at "ev"
    refine ⟨m / 2, l, rfl, by omega, by omega, fun pa H1 s1 n1 ha => ?_⟩
    have hp1 := s1 _ _ hp
    simp only [f_many X hp1]
    walk_at "ev"
    simp only [f_least X hp1]
    refine ⟨m - m / 2, l, rfl, by omega, by omega, fun pb H2 s2 n2 hb => ?_⟩
    refine ⟨by show 2 ≤ sizeLine; decide, fun r n3 => ?_⟩
    have s3 := same_new n3 (.tup [.ref pa, .ref pb])
    refine q r _ pa pb _ _ (s1.trans (s2.trans s3)) upd_same ((ha.same s2).same s3) (hb.same s3) ⟨⟨by omega, rfl⟩, rfl⟩ ⟨⟨by omega, rfl⟩, rfl⟩ rfl rfl fun i => ?_
    show l = (if i < m / 2 then l else l) + o
    rw [ho]
    split <;> omega
  | node m t l o a c =>
    obtain ⟨dx, pa, pb, hp, ha, hb⟩ := hT
    obtain ⟨wa, wb, a0, b0, em, et, el, eh⟩ := wf
    walk_at "ev"
    simp only [f_left X hp]
    walk_at "ev"
    simp only [f_left X hp, f_right X hp]
    walk_at "ev"
    refine ⟨by show 2 ≤ sizeLine; decide, fun r n3 => ?_⟩
    have s3 := same_new n3 (.tup [.ref pa, .ref pb])
    exact q r _ pa pb a c s3 upd_same (ha.same s3) (hb.same s3) wa wb eh (by show c.many = m - m / 2; omega) fun i => rfl
def OpOk (op : Int → Int → Int) : Prop := ∀ v a m, op v (a + m) + m = op (v + m) a
def sp_change (C : Addr) (op : Int → Int → Int) : Sp := fun vs H Q _ => ∃ (p : Addr) (t : T) (ab : Int), vs = [.ref p, .int ab] ∧ TreeAt C H p t ∧ t.Wf ∧ t.many ≤ 1000000000000 ∧
  ∀ (x : Addr) (H' : Hp) (t' : T), Same H H' → TreeAt C H' x t' → t'.Wf → t'.many = t.many → (∀ i, t'.den i = op (t.den i) ab) → Q (.ref x) H'
def sp_ch (C : Addr) (opw : Int → Int → Int → Int) (ws : List (Option V)) : Sp := fun vs H Q E => ∃ b : Int, ws = [some (.int b)] ∧ sp_change C (opw b) vs H Q E
def sp_changed_in (C : Addr) (opw : Int → Int → Int → Int) (f : Addr) (F : LF) (ws : List (Option V)) (n : Nat) : Sp := fun vs H Q _ => ∃ (b : Int) (p : Addr) (t : T) (lo hi ab : Int) (m : Nat), vs = [.ref p, .int lo, .int hi, .int ab, .ref f] ∧ ws = [some (.int b)] ∧ n = m + 1 ∧
  TreeAt C H p t ∧ t.Wf ∧ t.many ≤ 2 ^ m ∧ t.many ≤ 1000000000000 ∧ H F.c = some (CodeO F.c F.q) ∧
  ∀ (x : Addr) (H' : Hp) (t' : T), Same H H' → TreeAt C H' x t' → t'.Wf → t'.many = t.many → (∀ i, 0 ≤ i → i < t.many → t'.den i = if lo ≤ i ∧ i < hi then opw b (t.den i) ab else t.den i) → Q (.ref x) H'
theorem no_changed_in {opw : Int → Int → Int → Int} {f : Addr} {F : LF} {ws : List (Option V)} : ∀ vs H Q E, ¬ sp_changed_in C opw f F ws 0 vs H Q E := fun vs H Q E h => by
  obtain ⟨_, _, _, _, _, _, _, _, _, h, _⟩ := h
  omega
theorem gTup2_ap {p x y : Addr} {i j : Nat} {H : Hp} {σ : L2.St} {Q : L2.St → Hp → Prop} (h : H p = some (.tup [.ref x, .ref y])) (q : Q ((σ.set i (some (.ref x))).set j (some (.ref y))) H) : gTup K 2 (gCons (gName i) (gCons (gName j) gNil)) (.ref p) σ H Q :=
  ⟨p, _, rfl, .inl (Rd.of h), rfl, _, _, rfl, _, _, rfl, rfl, q⟩
theorem p_changed_in (X : Tx K C) {opw : Int → Int → Int → Int} (hop : ∀ b, OpOk (opw b)) {f : Addr} {F : LF} {ws : List (Option V)} {n : Nat} (vs : List V) (H : Hp) (Q : VK) (E : XK) (h : sp_changed_in C opw f F ws (n + 1) vs H Q E) :
    t_changed_in K (sp_halves C) (sp_joined C) (sp_changed_in C opw f F ws n) f F (sp_ch C opw ws) E { nx := fun _ H' => Q .non H', rt := Q } (start ["tree", "low", "high", "above", "change", "left", "right", "half", "ahead", "behind"] vs) H := by
  obtain ⟨b, p, t, lo, hi, ab, m0, rfl, rfl, en, hT, wf, hm, hz, hc, q⟩ := h
  obtain rfl : n = m0 := by omega
  show t_changed_in K (sp_halves C) (sp_joined C) (sp_changed_in C opw f F [some (.int b)] n) f F (sp_ch C opw [some (.int b)]) E _ [some (.ref p), some (.int lo), some (.int hi), some (.int ab), some (.ref f), none, none, none, none, none] H
  unfold t_changed_in
  obtain ⟨dx, L, R, hp⟩ := hT.root
  have nn := wf.nn
  walk_at "ev"
  simp only [f_many X hp]
  walk_at "ev"
  split
  · rename_i h1
    refine q p H t (.refl H) hT wf rfl fun i i0 i1 => ?_
    rw [if_neg (by omega)]
  rename_i h1
  simp only [f_many X hp]
  walk_at "ev"
  split
  · rename_i h2
    refine ⟨rfl, ?_⟩
    walk_at "ev"
    refine ⟨hc, b, rfl, p, t, ab, rfl, hT, wf, hz, fun x H' t' s hx wx mx dx => q x H' t' s hx wx mx fun i i0 i1 => ?_⟩
    rw [if_pos (by omega), dx]
  rename_i h2
  refine ⟨p, t, rfl, hT, wf, by omega, hz, fun r H1 pa pb a c s1 er ha hb wa wb ma mb hd => ?_⟩
  refine gTup2_ap er ?_
  walk_at "ev"
  obtain ⟨dxa, La, Ra, hpa⟩ := ha.root
  have hp1 := s1 _ _ hp
  simp only [f_many X hpa, f_more X hp1]
  walk_at "ev"
  cases n with
  | zero => rw [Int.pow_zero] at hm; omega
  | succ n =>
  rw [Int.pow_succ] at hm
  refine ⟨b, pa, a, _, _, _, n, rfl, rfl, rfl, ha, wa, by omega, by omega, s1 _ _ hc, fun xa H2 a' s2 hxa wa' ma' da' => ?_⟩
  have hp2 := s2 _ _ hp1
  walk_at "ev"
  simp only [f_more X hp2]
  walk_at "ev"
  refine ⟨b, pb, c, _, _, _, n, rfl, rfl, rfl, hb.same s2, wb, by omega, by omega, s2 _ _ (s1 _ _ hc), fun xb H3 c' s3 hxb wb' mb' db' => ?_⟩
  have hp3 := s3 _ _ hp2
  walk_at "ev"
  simp only [f_more X hp3]
  walk_at "ev"
  refine ⟨xa, xb, a', c', t.more, rfl, hxa.same s3, hxb, by omega, by omega, by omega, fun x H4 s4 n4 hx => q x H4 _ (s1.trans (s2.trans (s3.trans s4))) hx ⟨wa', wb', by omega, by omega, rfl, rfl, rfl, by omega⟩ (by show a'.many + c'.many = t.many; omega) fun i i0 i1 => ?_⟩
  show (if i < a'.many then a'.den i else c'.den (i - a'.many)) + t.more = _
  rw [hd i, ma']
  by_cases hi' : i < a.many
  · rw [if_pos hi', if_pos hi', da' i i0 hi']
    by_cases hr : lo ≤ i ∧ i < hi
    · rw [if_pos hr, if_pos (by omega), hop b]
    · rw [if_neg hr, if_neg (by omega)]
  · rw [if_neg hi', if_neg hi', db' (i - a.many) (by omega) (by omega)]
    by_cases hr : lo ≤ i ∧ i < hi
    · rw [if_pos hr, if_pos (by omega), hop b]
    · rw [if_neg hr, if_neg (by omega)]
def updR (op : Int → Int) (lo hi : Int) (f : Int → Int) : Int → Int := fun i => if lo ≤ i ∧ i < hi then op (f i) else f i
def sp_changed (C : Addr) (opw : Int → Int → Int → Int) (f : Addr) (F : LF) (ws : List (Option V)) : Sp := fun vs H Q _ => ∃ (b : Int) (p : Addr) (t : T) (lo hi : Int), vs = [.ref p, .int lo, .int hi, .ref f] ∧ ws = [some (.int b)] ∧
  TreeAt C H p t ∧ t.Wf ∧ t.many ≤ 1000000000000 ∧ H F.c = some (CodeO F.c F.q) ∧
  ∀ (x : Addr) (H' : Hp) (t' : T), Same H H' → TreeAt C H' x t' → t'.Wf → t'.many = t.many → (∀ i, 0 ≤ i → i < t.many → t'.den i = updR (fun v => opw b v 0) lo hi t.den i) → Q (.ref x) H'
theorem p_changed {opw : Int → Int → Int → Int} {f : Addr} {F : LF} {ws : List (Option V)} (vs : List V) (H : Hp) (Q : VK) (E : XK) (h : sp_changed C opw f F ws vs H Q E) :
    t_changed (sp_raised C) (sp_changed_in C opw f F ws 41) E { nx := fun _ H' => Q .non H', rt := Q } (start ["tree", "low", "high", "change"] vs) H := by
  obtain ⟨b, p, t, lo, hi, rfl, rfl, hT, wf, hz, hc, q⟩ := h
  show t_changed (sp_raised C) (sp_changed_in C opw f F [some (.int b)] 41) E _ [some (.ref p), some (.int lo), some (.int hi), some (.ref f)] H
  unfold t_changed
  walk_at "ev"
  split
  · rename_i h1
    refine ⟨p, t, 0, rfl, hT, wf, hz, fun x H' t' s n hx wx mx dx => q x H' t' s hx wx mx fun i i0 i1 => ?_⟩
    unfold updR
    rw [if_neg (by omega), dx, Int.add_zero]
  · exact ⟨b, p, t, lo, hi, 0, 40, rfl, rfl, rfl, hT, wf, Int.le_trans hz (by decide), hz, hc, q⟩
def sp_deed_in (C : Addr) (T : List (Addr × Str)) (opw : Int → Int → Int → Int) : Sp := fun vs H Q _ => ∃ (p : Addr) (t : RB.T) (lo hi b : Int), vs = [.ref p, .int lo, .int hi, .int b] ∧
  TreeAt C H p t ∧ t.Wf ∧ t.many ≤ 1000000000000 ∧ Tabs T H ∧
  ∀ (x : Addr) (H' : Hp) (t' : RB.T), ExtN H H' → Tabs T H' → TreeAt C H' x t' → t'.Wf → t'.many = t.many → (∀ i, 0 ≤ i → i < t.many → t'.den i = updR (fun v => opw b v 0) lo hi t.den i) → Q (.ref x) H'
theorem Ins.extN {H H' : Hp} (e : ExtN H H') : Ins H H' := fun b C dx fs h => e b _ h (by intro ps z; cases z)
theorem p_added_in {T : List (Addr × Str)} {q : Str} {l : Expr} {opw : Int → Int → Int → Int} (vs : List V) (H : Hp) (Q : VK) (E : XK) (h : sp_deed_in C T opw vs H Q E) :
    t_added_in T q l (sp_changed C opw) E { nx := fun _ H' => Q .non H', rt := Q } (start ["tree", "low", "high", "by"] vs) H := by
  obtain ⟨p, t, lo, hi, b, rfl, hT, wf, hz, hTab, qq⟩ := h
  show t_added_in T q l (sp_changed C opw) E _ [some (.ref p), some (.int lo), some (.int hi), some (.int b)] H
  unfold t_added_in tLam3
  walk_at "ev"
  exact ⟨hTab, fun f F H4 _ eN T4 hc => ⟨b, p, t, lo, hi, rfl, rfl, hT.ins (.extN eN), wf, hz, hc, fun x H' t' s hx wx mx dx => qq x H' t' (eN.trans (.of s)) (T4.ext s) hx wx mx dx⟩⟩
theorem p_filled_in {T : List (Addr × Str)} {q : Str} {l : Expr} {opw : Int → Int → Int → Int} (vs : List V) (H : Hp) (Q : VK) (E : XK) (h : sp_deed_in C T opw vs H Q E) :
    t_filled_in T q l (sp_changed C opw) E { nx := fun _ H' => Q .non H', rt := Q } (start ["tree", "low", "high", "number"] vs) H := p_added_in (q := q) (l := l) vs H Q E h
def opAdd : Int → Int → Int → Int := fun b v _ => v + b
def opFill : Int → Int → Int → Int := fun b _ a => b - a
theorem op_add (b : Int) : OpOk (opAdd b) := fun v a m => by unfold opAdd; omega
theorem op_fill (b : Int) : OpOk (opFill b) := fun v a m => by unfold opFill; omega
theorem p_lam_added_in {ws : List (Option V)} (vs : List V) (H : Hp) (Q : VK) (E : XK) (h : sp_ch C opAdd ws vs H Q E) : t_lam_added_in (sp_raised C) E (startF ["part", "above", "by"] vs ws) H Q := by
  obtain ⟨b, rfl, p, t, ab, rfl, hT, wf, hz, q⟩ := h
  show t_lam_added_in (sp_raised C) E [some (.ref p), some (.int ab), some (.int b)] H Q
  unfold t_lam_added_in
  walk_at "ev"
  exact ⟨p, t, b, rfl, hT, wf, hz, fun x H' t' s _ hx wx mx dx => q x H' t' s hx wx mx dx⟩
theorem p_lam_filled_in (X : Tx K C) {ws : List (Option V)} (vs : List V) (H : Hp) (Q : VK) (E : XK) (h : sp_ch C opFill ws vs H Q E) : t_lam_filled_in K (sp_even_tree C) E (startF ["part", "above", "number"] vs ws) H Q := by
  obtain ⟨b, rfl, p, t, ab, rfl, hT, wf, hz, q⟩ := h
  obtain ⟨dx, L, R, hp⟩ := hT.root
  show t_lam_filled_in K (sp_even_tree C) E [some (.ref p), some (.int ab), some (.int b)] H Q
  unfold t_lam_filled_in
  walk_at "ev"
  simp only [f_many X hp]
  walk_at "ev"
  exact ⟨t.many, b - ab, rfl, wf.nn, hz, fun x H' s _ hx => q x H' _ s hx ⟨⟨wf.nn, rfl⟩, rfl⟩ rfl fun i => rfl⟩
theorem len_ch {opw : Int → Int → Int → Int} {ws : List (Option V)} (vs : List V) (H : Hp) (Q : VK) (E : XK) (h : sp_ch C opw ws vs H Q E) : vs.length = 2 := by
  obtain ⟨_, _, _, _, _, rfl, _⟩ := h
  rfl
theorem len_changed_in {opw : Int → Int → Int → Int} {f : Addr} {F : LF} {ws : List (Option V)} {n : Nat} (vs : List V) (H : Hp) (Q : VK) (E : XK) (h : sp_changed_in C opw f F ws n vs H Q E) : vs.length = 5 := by
  obtain ⟨_, _, _, _, _, _, _, rfl, _⟩ := h
  rfl
theorem len_changed {opw : Int → Int → Int → Int} {f : Addr} {F : LF} {ws : List (Option V)} (vs : List V) (H : Hp) (Q : VK) (E : XK) (h : sp_changed C opw f F ws vs H Q E) : vs.length = 4 := by
  obtain ⟨_, _, _, _, _, rfl, _⟩ := h
  rfl
def Bk (C : Addr) (H : Hp) (p : Addr) (m : Int) (f : Int → Int) : Prop := ∃ t : T, TreeAt C H p t ∧ t.Wf ∧ t.many = m ∧ m ≤ 1000000000000 ∧ ∀ i, 0 ≤ i → i < m → t.den i = f i
theorem Bk.ins {H H' : Hp} {p : Addr} {m : Int} {f : Int → Int} (h : Bk C H p m f) (s : Ins H H') : Bk C H' p m f := by
  obtain ⟨t, hT, r⟩ := h
  exact ⟨t, hT.ins s, r⟩
theorem Bk.same {H H' : Hp} {p : Addr} {m : Int} {f : Int → Int} (h : Bk C H p m f) (s : Same H H') : Bk C H' p m f := h.ins (.same s)
theorem Bk.nn {H : Hp} {p : Addr} {m : Int} {f : Int → Int} (h : Bk C H p m f) : 0 ≤ m := by
  obtain ⟨t, _, wf, rfl, _⟩ := h
  exact wf.nn
theorem seg_bk {t : T} {m : Int} {f : Int → Int} (hm : t.many = m) (hd : ∀ i, 0 ≤ i → i < m → t.den i = f i) {lo hi : Int} (h0 : 0 ≤ lo) (h1 : lo ≤ hi) (h2 : hi ≤ m) : seg t.den lo (hi - lo).toNat = seg f lo (hi - lo).toNat :=
  seg_congr fun i hi' => hd _ (by omega) (by omega)
def rowF (xs : List Int) : Int → Int := fun i => xs.getD i.toNat 0
theorem bk_row {H : Hp} {p : Addr} {t : T} {xs : List Int} (hT : TreeAt C H p t) (wf : t.Wf) (r : RowIs t xs) (hz : xs.length ≤ 1000) : Bk C H p xs.length (rowF xs) := by
  refine ⟨t, hT, wf, r.1, by omega, fun i i0 i1 => ?_⟩
  have e : xs[i.toNat]? = some (xs.getD i.toNat 0) := by
    rw [List.getD_eq_getElem?_getD, List.getElem?_eq_getElem (by omega)]
    rfl
  have := r.2 i.toNat _ e
  rw [show ((i.toNat : Nat) : Int) = i by omega] at this
  exact this
theorem bk_even {H : Hp} {p : Addr} {m v : Int} (hT : TreeAt C H p (.leaf m (m * v) v 0)) (h0 : 0 ≤ m) (h1 : m ≤ 1000000000000) : Bk C H p m (fun _ => v) := ⟨_, hT, ⟨⟨h0, rfl⟩, rfl⟩, rfl, h1, fun _ _ _ => rfl⟩
variable {CO CT CZ : Addr} {H : Hp} {Q : VK} {E : XK} {p : Addr} {m : Int} {f : Int → Int}
theorem bk_length (h : Bk C H p m f) (q : Q (.int m) H) : sp_length C [.ref p] H Q E := by
  obtain ⟨t, hT, wf, rfl, r⟩ := h
  exact ⟨p, t, rfl, hT, q⟩
theorem bk_total {lo hi : Int} (h : Bk C H p m f) (h0 : 0 ≤ lo) (h1 : lo ≤ hi) (h2 : hi ≤ m) (q : Q (.int (seg f lo (hi - lo).toNat).sum) H) : sp_total C CO 41 [.ref p, .int lo, .int hi] H Q E := by
  obtain ⟨t, hT, wf, hm, hz, hd⟩ := h
  refine ⟨p, t, lo, hi, rfl, hT, wf, ht_41 wf (by omega), by omega, fun _ => ?_, fun z => absurd (show 0 ≤ lo ∧ lo ≤ hi ∧ hi ≤ t.many by omega) z⟩
  rw [seg_bk hm hd h0 h1 h2]
  exact q
theorem bk_listed {lo hi : Int} (h : Bk C H p m f) (h0 : 0 ≤ lo) (h1 : lo ≤ hi) (h2 : hi ≤ m) (h3 : hi - lo ≤ 1000) (q : ∀ (r : Addr) (H' : Hp), Same H H' → H r = none → H' r = some (.lst ((seg f lo (hi - lo).toNat).map V.int)) → Q (.ref r) H') :
    sp_listed C CO CT 41 [.ref p, .int lo, .int hi] H Q E := by
  obtain ⟨t, hT, wf, hm, hz, hd⟩ := h
  refine ⟨p, t, lo, hi, rfl, hT, wf, ht_41 wf (by omega), fun _ r H' s n e => q r H' s n ?_, fun z => absurd (show 0 ≤ lo ∧ lo ≤ hi ∧ hi ≤ t.many by omega) z, fun z => absurd z (by omega)⟩
  rw [e, seg_bk hm hd h0 h1 h2]
def FirstF (f : Int → Int) (lo hi b : Int) : Option Int → Prop
  | none => ∀ i, lo ≤ i → i < hi → b < f i
  | some k => lo ≤ k ∧ k < hi ∧ f k ≤ b ∧ ∀ i, lo ≤ i → i < k → b < f i
theorem bk_first {lo b : Int} (h : Bk C H p m f) (h0 : 0 ≤ lo) (h1 : lo ≤ m) (q : ∀ r, FirstF f lo m b r → Q (optV r) H) : sp_first C CO 41 [.ref p, .int lo, .int b] H Q E := by
  obtain ⟨t, hT, wf, hm, hz, hd⟩ := h
  refine ⟨p, t, lo, b, rfl, hT, wf, ht_41 wf (by omega), fun _ r hr => q r ?_, fun z => absurd (show 0 ≤ lo ∧ lo ≤ t.many by omega) z⟩
  cases r with
  | none =>
    intro i i0 i1
    rw [← hd i (by omega) i1]
    exact hr i (by omega) (by omega)
  | some k =>
    obtain ⟨k1, k2, k3, k4⟩ := hr
    refine ⟨by omega, by omega, by rw [← hd k (by omega) (by omega)]; exact k3, fun i i0 i1 => ?_⟩
    rw [← hd i (by omega) (by omega)]
    exact k4 i (by omega) i1
theorem bk_least {lo hi : Int} (h : Bk C H p m f) (h0 : 0 ≤ lo) (h1 : lo < hi) (h2 : hi ≤ m) (q : ∀ (H' : Hp) (z : Int), Same H H' → LeastF f lo hi z → Q (.int z) H') : sp_least C CO CZ 41 [.ref p, .int lo, .int hi] H Q E := by
  obtain ⟨t, hT, wf, hm, hz, hd⟩ := h
  refine ⟨p, t, lo, hi, rfl, hT, wf, ht_41 wf (by omega), fun _ H' z s hz => q H' z s ?_, fun z => absurd (show 0 ≤ lo ∧ lo ≤ hi ∧ hi ≤ t.many by omega) z, fun z => absurd z (by omega)⟩
  obtain ⟨⟨i, i0, i1, e⟩, ha⟩ := hz
  exact ⟨⟨i, i0, i1, by rw [← hd i (by omega) (by omega)]; exact e⟩, fun i i0 i1 => by rw [← hd i (by omega) (by omega)]; exact ha i i0 i1⟩
theorem bk_place {lo hi : Int} (h : Bk C H p m f) (h0 : 0 ≤ lo) (h1 : lo < hi) (h2 : hi ≤ m) (q : ∀ (H' : Hp) (k : Int), Same H H' → PlaceF f lo hi k → Q (.int k) H') : sp_place C CO CZ 41 [.ref p, .int lo, .int hi] H Q E := by
  obtain ⟨t, hT, wf, hm, hz, hd⟩ := h
  refine ⟨p, t, lo, hi, rfl, hT, wf, ht_41 wf (by omega), fun _ H' z s hz => q H' z s ?_, fun z => absurd (show 0 ≤ lo ∧ lo ≤ hi ∧ hi ≤ t.many by omega) z, fun z => absurd z (by omega)⟩
  obtain ⟨k0, k1, ha, hb⟩ := hz
  have ek := hd z (by omega) (by omega)
  refine ⟨k0, k1, fun i i0 i1 => ?_, fun i i0 i1 => ?_⟩
  · rw [← ek, ← hd i (by omega) (by omega)]
    exact ha i i0 i1
  · rw [← ek, ← hd i (by omega) (by omega)]
    exact hb i i0 i1
theorem bk_total_out {lo hi : Int} (h : Bk C H p m f) (hb : ¬ (0 ≤ lo ∧ lo ≤ hi ∧ hi ≤ m)) (q : E (.ref CO) none H) : sp_total C CO 41 [.ref p, .int lo, .int hi] H Q E := by
  obtain ⟨t, hT, wf, hm, hz, hd⟩ := h
  exact ⟨p, t, lo, hi, rfl, hT, wf, ht_41 wf (by omega), by omega, fun z => absurd z (by omega), fun _ => q⟩
theorem bk_least_out {lo hi : Int} (h : Bk C H p m f) (hb : ¬ (0 ≤ lo ∧ lo ≤ hi ∧ hi ≤ m)) (q : E (.ref CO) none H) : sp_least C CO CZ 41 [.ref p, .int lo, .int hi] H Q E := by
  obtain ⟨t, hT, wf, hm, hz, hd⟩ := h
  exact ⟨p, t, lo, hi, rfl, hT, wf, ht_41 wf (by omega), fun z => absurd z (by omega), fun _ => q, fun z => absurd z (by omega)⟩
theorem bk_least_no {lo : Int} (h : Bk C H p m f) (h0 : 0 ≤ lo) (h1 : lo ≤ m) (q : E (.ref CZ) none H) : sp_least C CO CZ 41 [.ref p, .int lo, .int lo] H Q E := by
  obtain ⟨t, hT, wf, hm, hz, hd⟩ := h
  exact ⟨p, t, lo, lo, rfl, hT, wf, ht_41 wf (by omega), fun z => absurd z (by omega), fun z => absurd (show 0 ≤ lo ∧ lo ≤ lo ∧ lo ≤ t.many by omega) z, fun _ => q⟩
theorem bk_place_out {lo hi : Int} (h : Bk C H p m f) (hb : ¬ (0 ≤ lo ∧ lo ≤ hi ∧ hi ≤ m)) (q : E (.ref CO) none H) : sp_place C CO CZ 41 [.ref p, .int lo, .int hi] H Q E := by
  obtain ⟨t, hT, wf, hm, hz, hd⟩ := h
  exact ⟨p, t, lo, hi, rfl, hT, wf, ht_41 wf (by omega), fun z => absurd z (by omega), fun _ => q, fun z => absurd z (by omega)⟩
theorem bk_place_no {lo : Int} (h : Bk C H p m f) (h0 : 0 ≤ lo) (h1 : lo ≤ m) (q : E (.ref CZ) none H) : sp_place C CO CZ 41 [.ref p, .int lo, .int lo] H Q E := by
  obtain ⟨t, hT, wf, hm, hz, hd⟩ := h
  exact ⟨p, t, lo, lo, rfl, hT, wf, ht_41 wf (by omega), fun z => absurd z (by omega), fun z => absurd (show 0 ≤ lo ∧ lo ≤ lo ∧ lo ≤ t.many by omega) z, fun _ => q⟩
theorem bk_first_out {lo b : Int} (h : Bk C H p m f) (hb : ¬ (0 ≤ lo ∧ lo ≤ m)) (q : E (.ref CO) none H) : sp_first C CO 41 [.ref p, .int lo, .int b] H Q E := by
  obtain ⟨t, hT, wf, hm, hz, hd⟩ := h
  exact ⟨p, t, lo, b, rfl, hT, wf, ht_41 wf (by omega), fun z => absurd z (by omega), fun _ => q⟩
theorem bk_listed_out {lo hi : Int} (h : Bk C H p m f) (hb : ¬ (0 ≤ lo ∧ lo ≤ hi ∧ hi ≤ m)) (q : E (.ref CO) none H) : sp_listed C CO CT 41 [.ref p, .int lo, .int hi] H Q E := by
  obtain ⟨t, hT, wf, hm, hz, hd⟩ := h
  exact ⟨p, t, lo, hi, rfl, hT, wf, ht_41 wf (by omega), fun z => absurd z (by omega), fun _ => q, fun z => absurd z (by omega)⟩
theorem bk_listed_many {lo hi : Int} (h : Bk C H p m f) (h0 : 0 ≤ lo) (h2 : hi ≤ m) (h3 : 1000 < hi - lo) (q : E (.ref CT) none H) : sp_listed C CO CT 41 [.ref p, .int lo, .int hi] H Q E := by
  obtain ⟨t, hT, wf, hm, hz, hd⟩ := h
  exact ⟨p, t, lo, hi, rfl, hT, wf, ht_41 wf (by omega), fun z => absurd z (by omega), fun z => absurd (show 0 ≤ lo ∧ lo ≤ hi ∧ hi ≤ t.many by omega) z, fun _ => q⟩
def sp_deed (C CO : Addr) (T : List (Addr × Str)) (opw : Int → Int → Int → Int) : Sp := fun vs H Q E => ∃ (p : Addr) (m : Int) (f : Int → Int) (lo hi b : Int), vs = [.ref p, .int lo, .int hi, .int b] ∧ Bk C H p m f ∧ Tabs T H ∧
  ((0 ≤ lo ∧ lo ≤ hi ∧ hi ≤ m) → ∀ (x : Addr) (H' : Hp), ExtN H H' → Tabs T H' → Bk C H' x m (updR (fun v => opw b v 0) lo hi f) → Q (.ref x) H') ∧ (¬ (0 ≤ lo ∧ lo ≤ hi ∧ hi ≤ m) → E (.ref CO) none H)
theorem p_added {T : List (Addr × Str)} {opw : Int → Int → Int → Int} (vs : List V) (H : Hp) (Q : VK) (E : XK) (h : sp_deed C CO T opw vs H Q E) :
    t_added (sp_check_stretch C CO) (sp_deed_in C T opw) E { nx := fun _ H' => Q .non H', rt := Q } (start ["book", "low", "high", "by"] vs) H := by
  obtain ⟨p, m, f, lo, hi, b, rfl, ⟨t, hT, wf, hm, hz, hd⟩, hTab, q1, q2⟩ := h
  show t_added (sp_check_stretch C CO) (sp_deed_in C T opw) E _ [some (.ref p), some (.int lo), some (.int hi), some (.int b)] H
  unfold t_added
  walk_at "ev"
  refine ⟨p, t, lo, hi, rfl, hT, fun hc => ⟨p, t, lo, hi, b, rfl, hT, wf, by omega, hTab, fun x H' t' eN T' hx wx mx dx => q1 (by omega) x H' eN T' ⟨t', hx, wx, by omega, hz, fun i i0 i1 => ?_⟩⟩, fun hc => q2 (by omega)⟩
  rw [dx i i0 (by omega)]
  unfold updR
  rw [hd i i0 i1]
theorem p_filled {T : List (Addr × Str)} {opw : Int → Int → Int → Int} (vs : List V) (H : Hp) (Q : VK) (E : XK) (h : sp_deed C CO T opw vs H Q E) :
    t_filled (sp_check_stretch C CO) (sp_deed_in C T opw) E { nx := fun _ H' => Q .non H', rt := Q } (start ["book", "low", "high", "number"] vs) H := p_added vs H Q E h
theorem bk_deed {T : List (Addr × Str)} {opw : Int → Int → Int → Int} {lo hi b : Int} (h : Bk C H p m f) (hT : Tabs T H) (h0 : 0 ≤ lo) (h1 : lo ≤ hi) (h2 : hi ≤ m) (q : ∀ (x : Addr) (H' : Hp), ExtN H H' → Tabs T H' → Bk C H' x m (updR (fun v => opw b v 0) lo hi f) → Q (.ref x) H') :
    sp_deed C CO T opw [.ref p, .int lo, .int hi, .int b] H Q E := ⟨p, m, f, lo, hi, b, rfl, h, hT, fun _ => q, fun z => absurd ⟨h0, h1, h2⟩ z⟩
theorem bk_deed_out {T : List (Addr × Str)} {opw : Int → Int → Int → Int} {lo hi b : Int} (h : Bk C H p m f) (hT : Tabs T H) (hb : ¬ (0 ≤ lo ∧ lo ≤ hi ∧ hi ≤ m)) (q : E (.ref CO) none H) :
    sp_deed C CO T opw [.ref p, .int lo, .int hi, .int b] H Q E := ⟨p, m, f, lo, hi, b, rfl, h, hT, fun z => absurd z hb, fun _ => q⟩
end
theorem Tabs.put {T : List (Addr × Str)} {H : Hp} {p : Addr} {xs : List V} (h : Tabs T H) (hp : H p = some (.lst xs)) (ys : List V) : Tabs T (upd H p (.lst ys)) := fun r hr => by
  obtain ⟨ps, h1, h2, h3⟩ := h r hr
  have n1 : r.1 ≠ p := fun z => by rw [z, hp] at h1; cases h1
  refine ⟨ps, by rw [upd_ne n1]; exact h1, h2, fun pos cv hc => ?_⟩
  obtain ⟨c, e1, e2⟩ := h3 pos cv hc
  have n2 : c ≠ p := fun z => by rw [z, hp] at e2; unfold CodeO at e2; cases e2
  exact ⟨c, e1, by rw [upd_ne n2]; exact e2⟩
theorem ExtN.seq {K : PySem.W.Frag} {H H' : Hp} (e : ExtN H H') {p : Addr} {xs : List V} (h : SqL K H p xs) : SqL K H' p xs := by
  rcases h with (h | ⟨o, h⟩) | h
  · exact .inl (.inl (e _ _ h (by intro ps z; cases z)))
  · exact .inl (.inr ⟨o, e _ _ h (by intro ps z; cases z)⟩)
  · exact .inr h
end RB
namespace RB
open PySem PySem.Spec PyProof.Rows L2
local macro_rules | `(tactic| walk_at "ev") => `(tactic| try simp only [tSeq, tIfS, tTest, tNot, tAnd, tOr, tB, tOp, tUn, tVar, tC, tRet, tAsg, gName, tNext, tCB, tCons, tNil, tDrop, tRaise, tChain, tChain3, tAndV, tOrV, tNotV, tIf, tCall, tFld_ap, tLc_ap, tLcR_ap, tFor_ap, tForR_ap, tForR2_ap, nTry, nTryAs, tCallS, tKnown, tBM, gSub, tSl, tNoPart, tPart, tLst, tTup, wipe,
  List.getElem?_cons_zero, List.getElem?_cons_succ, List.set_cons_zero, List.set_cons_succ, ex_some, ex_bl, ex_int, List.nil_append, List.cons_append, List.append_nil,
  nAdd_ap, nSub_ap, nLt_ap, nLe_ap, nGt_ap, nGe_ap, nMul_ap, nMulW_ap, nDiv_ap, nMod_ap, nPow_ap, nNeg_ap, nMax_ap, nMin_ap, rEq_ap, rNe_ap, nIs_ap, nIsNot_ap, dec_int_non, dec_ref_non, dec_non_non, ref_non, int_non, non_ref, non_int, isi_int_int, isi_int_bool,
  decide_eq_true_eq, Bool.not_eq_true', decide_eq_false_iff_not, decide_true, decide_false, Bool.not_true, Bool.not_false, ite_tt', ite_ff', Bool.false_eq_true, Bool.true_eq_false, not_true_eq_false, not_false_eq_true, if_true, if_false])
end RB
namespace RB
open PySem PySem.Spec PyProof.Rows L2 LamX NdefX
local macro_rules | `(tactic| walk_at "ev") => `(tactic| try simp only [tSeq, tIfS, tTest, tNot, tAnd, tOr, tB, tOp, tUn, tVar, tC, tRet, tAsg, gName, tNext, tCB, tCons, tNil, tDrop, tRaise, tChain, tChain3, tAndV, tOrV, tNotV, tIf, tCall, tFld_ap, tLc_ap, tLcR_ap, tFor_ap, tForR_ap, tForR2_ap, nTry, nTryAs, tCallS, tKnown, tBM, gSub, tSl, tNoPart, tPart, tLst, tTup, wipe,
  List.getElem?_cons_zero, List.getElem?_cons_succ, List.set_cons_zero, List.set_cons_succ, ex_some, ex_bl, ex_int, List.nil_append, List.cons_append, List.append_nil,
  nAdd_ap, nSub_ap, nLt_ap, nLe_ap, nGt_ap, nGe_ap, nMul_ap, nMulW_ap, nDiv_ap, nMod_ap, nPow_ap, nNeg_ap, nMax_ap, nMin_ap, rEq_ap, rNe_ap, nIs_ap, nIsNot_ap, dec_int_non, dec_ref_non, dec_non_non, ref_non, int_non, non_ref, non_int, isi_int_int, isi_int_bool,
  decide_eq_true_eq, Bool.not_eq_true', decide_eq_false_iff_not, decide_true, decide_false, Bool.not_true, Bool.not_false, ite_tt', ite_ff', Bool.false_eq_true, Bool.true_eq_false, not_true_eq_false, not_false_eq_true, if_true, if_false])
theorem rng1_ap {i : Nat} {tb : TS} {D : Ends} {σ : L2.St} {H : Hp} {n : Int} (b1 : -(2 ^ 62) ≤ n) (b2 : n < 2 ^ 62) (Pv : Nat → L2.St → Hp → Prop) (h0 : Pv 0 σ H)
    (hs : ∀ k σ' H', k < n.toNat → Pv k σ' H' → tb { D with nx := Pv (k + 1), ct := Pv (k + 1), bk := D.nx } (σ'.set i (some (.int (k : Nat)))) H') (hd : ∀ σ' H', Pv n.toNat σ' H' → D.nx σ' H') : nForR i tb [.int n] D σ H := by
  refine ⟨n, rfl, b1, b2, for_range (lo := 0) (n := n.toNat) Pv h0 (fun k σ' H' hk p => ?_) hd⟩
  rw [show (0 : Int) + (k : Nat) = (k : Nat) by omega]
  exact hs k σ' H' hk p
theorem lst_ap {K : PySem.W.Frag} {i : Nat} {tb : TS} {D : Ends} {σ : L2.St} {H : Hp} {a : Addr} {xs : List V} (hx : SqL K H a xs) (Pv : Nat → L2.St → Hp → Prop) (h0 : Pv 0 σ H) (hl : ∀ k σ' H', k ≤ xs.length → Pv k σ' H' → SqL K H' a xs)
    (hs : ∀ k x σ' H', xs[k]? = some x → Pv k σ' H' → tb { D with nx := Pv (k + 1), ct := Pv (k + 1), bk := D.nx } (σ'.set i (some x)) H') (hd : ∀ σ' H', Pv xs.length σ' H' → D.nx σ' H') : nFor K i tb (.ref a) D σ H :=
  ⟨a, rfl, ⟨_, hx⟩, for_list (K := K) (a := a) (xs := xs) Pv h0 hl hs hd⟩
section
variable {K : PySem.W.Frag} {C CO CZ : Addr}
theorem row_at {xs : List Int} {k : Int} (k0 : 0 ≤ k) (k1 : k < (xs.length : Int)) : (xs.map V.int)[k.toNat]? = some (.int (rowF xs k)) := by
  rw [List.getElem?_map]
  unfold rowF
  rw [List.getD_eq_getElem?_getD, List.getElem?_eq_getElem (by omega)]
  rfl
theorem row_ix {xs : List Int} {ra : Addr} {k : Int} {H' : Hp} {Q' : VK} (hS : SqL K H' ra (xs.map V.int)) (k0 : 0 ≤ k) (k1 : k < (xs.length : Int)) (q : Q' (.int (rowF xs k)) H') : rIxL K (.ref ra) (.int k) H' Q' := by
  have := ixL_ap (j := k.toNat) hS (row_at k0 k1) q
  rw [show ((k.toNat : Nat) : Int) = k by omega] at this
  exact this
theorem place_uniq {f : Int → Int} {lo hi a b : Int} (ha : PlaceF f lo hi a) (hb : PlaceF f lo hi b) : a = b := by
  obtain ⟨a0, a1, a2, a3⟩ := ha
  obtain ⟨b0, b1, b2, b3⟩ := hb
  by_cases h : a < b
  · have := b3 a a0 h
    have := a2 b b0 b1
    omega
  · by_cases h' : b < a
    · have := a3 b b0 h'
      have := b2 a a0 a1
      omega
    · omega
theorem least_place {f : Int → Int} {lo hi a z : Int} (ha : PlaceF f lo hi a) (hz : LeastF f lo hi z) : z = f a := by
  obtain ⟨a0, a1, a2, a3⟩ := ha
  obtain ⟨⟨i, i0, i1, e⟩, hb⟩ := hz
  have := hb a a0 a1
  have := a2 i i0 i1
  omega
end
end RB
namespace RB
open PySem PySem.Spec PyProof.Rows L2 LamX NdefX
local macro_rules | `(tactic| walk_at "ev") => `(tactic| try simp only [tSeq, tIfS, tTest, tNot, tAnd, tOr, tB, tOp, tUn, tVar, tC, tRet, tAsg, gName, tNext, tCB, tCons, tNil, tDrop, tRaise, tChain, tChain3, tAndV, tOrV, tNotV, tIf, tCall, tFld_ap, tLc_ap, tLcR_ap, tFor_ap, tForR_ap, tForR2_ap, nTry, nTryAs, tCallS, tKnown, tBM, gSub, tSl, tNoPart, tPart, tLst, tTup, wipe,
  List.getElem?_cons_zero, List.getElem?_cons_succ, List.set_cons_zero, List.set_cons_succ, ex_some, ex_bl, ex_int, List.nil_append, List.cons_append, List.append_nil,
  nAdd_ap, nSub_ap, nLt_ap, nLe_ap, nGt_ap, nGe_ap, nMul_ap, nMulW_ap, nDiv_ap, nMod_ap, nPow_ap, nNeg_ap, nMax_ap, nMin_ap, rEq_ap, rNe_ap, nIs_ap, nIsNot_ap, dec_int_non, dec_ref_non, dec_non_non, ref_non, int_non, non_ref, non_int, isi_int_int, isi_int_bool,
  decide_eq_true_eq, Bool.not_eq_true', decide_eq_false_iff_not, decide_true, decide_false, Bool.not_true, Bool.not_false, ite_tt', ite_ff', Bool.false_eq_true, Bool.true_eq_false, not_true_eq_false, not_false_eq_true, if_true, if_false])
def KeepS (S : List Addr) (H H' : Hp) : Prop := ∀ x o, H x = some o → x ∉ S → (∀ ps, o ≠ .tbl ps) → H' x = some o
def SL (S : List Addr) (H : Hp) : Prop := ∀ p ∈ S, ∃ xs, H p = some (.lst xs)
section
variable {S : List Addr} {H H1 H2 : Hp} {T : List (Addr × Str)}
theorem KeepS.refl : KeepS S H H := fun _ _ h _ _ => h
theorem KeepS.trans (a : KeepS S H H1) (b : KeepS S H1 H2) : KeepS S H H2 := fun x o h n t => b x o (a x o h n t) n t
theorem KeepS.same (s : Same H H1) : KeepS S H H1 := fun x o h _ _ => s x o h
theorem KeepS.ext (e : ExtN H H1) : KeepS S H H1 := fun x o h _ t => e x o h t
theorem KeepS.put {p : Addr} {o : HO} (hp : p ∈ S) : KeepS S H (upd H p o) := fun x u h n _ => by
  rw [upd_ne (fun z => n (by rw [z]; exact hp))]
  exact h
theorem KeepS.ins (k : KeepS S H H1) (l : SL S H) : Ins H H1 := fun b C dx fs h => k b _ h (fun z => by
  obtain ⟨xs, e⟩ := l b z
  rw [h] at e
  cases e) (by intro ps z; cases z)
theorem KeepS.seq {K : PySem.W.Frag} (k : KeepS S H H1) {p : Addr} {xs : List V} (n : p ∉ S) (h : SqL K H p xs) : SqL K H1 p xs := by
  rcases h with (h | ⟨o, h⟩) | h
  · exact .inl (.inl (k _ _ h n (by intro ps z; cases z)))
  · exact .inl (.inr ⟨o, k _ _ h n (by intro ps z; cases z)⟩)
  · exact .inr h
theorem SL.same (l : SL S H) (s : Same H H1) : SL S H1 := fun p hp => by
  obtain ⟨xs, e⟩ := l p hp
  exact ⟨xs, s _ _ e⟩
theorem SL.ext (l : SL S H) (s : ExtN H H1) : SL S H1 := fun p hp => by
  obtain ⟨xs, e⟩ := l p hp
  exact ⟨xs, s _ _ e (by intro ps z; cases z)⟩
theorem SL.put (l : SL S H) {p : Addr} {ys : List V} : SL S (upd H p (.lst ys)) := fun r hr => by
  by_cases z : r = p
  · exact ⟨ys, by rw [z, upd_same]⟩
  · obtain ⟨xs, e⟩ := l r hr
    exact ⟨xs, by rw [upd_ne z]; exact e⟩
theorem SL.no (l : SL S H) {p : Addr} (h : H p = none) : p ∉ S := fun z => by
  obtain ⟨xs, e⟩ := l p z
  rw [h] at e
  cases e
theorem SL.cons (l : SL S H) {p : Addr} {xs : List V} (h : H p = some (.lst xs)) : SL (p :: S) H := fun r hr => by
  rcases List.mem_cons.mp hr with rfl | hr
  · exact ⟨xs, h⟩
  · exact l r hr
theorem Same.ext (s : Same H H1) : ExtN H H1 := fun b o h _ => s b o h
theorem ext_lst (e : ExtN H H1) {p : Addr} {xs : List V} (h : H p = some (.lst xs)) : H1 p = some (.lst xs) := e _ _ h (by intro ps z; cases z)
end
def Scr (K : PySem.W.Frag) (S : List Addr) (H : Hp) (a : Addr) (xs : List V) : Prop := (Rd H a (.lst xs) ∧ a ∉ S) ∨ ∀ H', SqL K H' a xs
section
variable {K : PySem.W.Frag} {S : List Addr} {H H1 : Hp} {a : Addr} {xs : List V}
theorem Scr.of (h : SqL K H a xs) : Scr K [] H a xs := by
  rcases h with h | h
  · exact .inl ⟨h, by simp⟩
  · exact .inr fun _ => .inr h
theorem Scr.sq (h : Scr K S H a xs) : SqL K H a xs := by
  rcases h with h | h
  · exact .inl h.1
  · exact h H
theorem Scr.keep (h : Scr K S H a xs) (k : KeepS S H H1) : Scr K S H1 a xs := by
  rcases h with ⟨h | ⟨o, h⟩, n⟩ | h
  · exact .inl ⟨.inl (k _ _ h n (by intro ps z; cases z)), n⟩
  · exact .inl ⟨.inr ⟨o, k _ _ h n (by intro ps z; cases z)⟩, n⟩
  · exact .inr h
theorem Scr.same (h : Scr K S H a xs) (s : Same H H1) : Scr K S H1 a xs := h.keep (.same s)
theorem Scr.grow (h : Scr K S H a xs) {p : Addr} (hp : H p = none) : Scr K (p :: S) H a xs := by
  rcases h with ⟨h, n⟩ | h
  · refine .inl ⟨h, fun z => ?_⟩
    rcases List.mem_cons.mp z with z | z
    · subst z
      rcases h with h | ⟨o, h⟩ <;> rw [hp] at h <;> cases h
    · exact n z
  · exact .inr h
end
theorem Bk.congr {C : Addr} {H : Hp} {p : Addr} {m : Int} {f g : Int → Int} (h : Bk C H p m f) (e : ∀ i, 0 ≤ i → i < m → f i = g i) : Bk C H p m g := by
  obtain ⟨t, a, b, c, d, hd⟩ := h
  exact ⟨t, a, b, c, d, fun i i0 i1 => (hd i i0 i1).trans (e i i0 i1)⟩
structure Lib (C : Addr) (S : List Addr) (H : Hp) (m : Nat) (bs rs : List Addr) (xss : List (List Int)) : Prop where
  lr : rs.length = bs.length
  lx : xss.length = bs.length
  all : ∀ (i : Nat) (p r : Addr) (xs : List Int), bs[i]? = some p → rs[i]? = some r → xss[i]? = some xs → Bk C H p m (rowF xs) ∧ H r = some (.lst (xs.map V.int)) ∧ r ∉ S ∧ xs.length = m
section
variable {C : Addr} {S : List Addr} {H H1 : Hp} {m : Nat} {bs rs : List Addr} {xss : List (List Int)}
theorem Lib.keep (h : Lib C S H m bs rs xss) (k : KeepS S H H1) (l : SL S H) : Lib C S H1 m bs rs xss := ⟨h.lr, h.lx, fun i p r xs a b c => by
  obtain ⟨h1, h2, h3, h4⟩ := h.all i p r xs a b c
  exact ⟨h1.ins (k.ins l), k _ _ h2 h3 (by intro ps z; cases z), h3, h4⟩⟩
theorem Lib.same (h : Lib C S H m bs rs xss) (s : Same H H1) : Lib C S H1 m bs rs xss := ⟨h.lr, h.lx, fun i p r xs a b c => by
  obtain ⟨h1, h2, h3, h4⟩ := h.all i p r xs a b c
  exact ⟨h1.same s, s _ _ h2, h3, h4⟩⟩
theorem Lib.get (h : Lib C S H m bs rs xss) {i : Nat} (hi : i < bs.length) : ∃ p r xs, bs[i]? = some p ∧ rs[i]? = some r ∧ xss[i]? = some xs ∧ Bk C H p m (rowF xs) ∧ H r = some (.lst (xs.map V.int)) ∧ r ∉ S ∧ xs.length = m := by
  have a : bs[i]? = some bs[i] := List.getElem?_eq_getElem hi
  obtain ⟨r, b⟩ : ∃ r, rs[i]? = some r := ⟨_, List.getElem?_eq_getElem (h := by have := h.lr; omega) ..⟩
  obtain ⟨xs, c⟩ : ∃ xs, xss[i]? = some xs := ⟨_, List.getElem?_eq_getElem (h := by have := h.lx; omega) ..⟩
  exact ⟨_, _, _, a, b, c, h.all i _ _ _ a b c⟩
theorem Lib.grow (h : Lib C S H m bs rs xss) {q : Addr} (hq : H q = none) : Lib C (q :: S) H m bs rs xss := ⟨h.lr, h.lx, fun i p r xs a b c => by
  obtain ⟨h1, h2, h3, h4⟩ := h.all i p r xs a b c
  refine ⟨h1, h2, fun z => ?_, h4⟩
  rcases List.mem_cons.mp z with z | z
  · rw [z, hq] at h2
    cases h2
  · exact h3 z⟩
theorem Lib.snoc (h : Lib C S H m bs rs xss) {p r : Addr} {xs : List Int} (hB : Bk C H p m (rowF xs)) (hr : H r = some (.lst (xs.map V.int))) (hS : r ∉ S) (hl : xs.length = m) : Lib C S H m (bs ++ [p]) (rs ++ [r]) (xss ++ [xs]) := by
  refine ⟨by simp [h.lr], by simp [h.lx], fun i p' r' xs' a b c => ?_⟩
  have lr := h.lr
  have lx := h.lx
  by_cases z : i < bs.length
  · rw [List.getElem?_append_left z] at a
    rw [List.getElem?_append_left (by omega)] at b c
    exact h.all i _ _ _ a b c
  · have hi : i = bs.length := by
      have := (List.getElem?_eq_some_iff.mp a).1
      rw [List.length_append, List.length_singleton] at this
      omega
    subst hi
    rw [List.getElem?_append_right (Nat.le_refl _), Nat.sub_self] at a
    rw [List.getElem?_append_right (by omega), lr, Nat.sub_self] at b
    rw [List.getElem?_append_right (by omega), lx, Nat.sub_self] at c
    cases a
    cases b
    cases c
    exact ⟨hB, hr, hS, hl⟩
theorem Lib.one {p r : Addr} {xs : List Int} (hB : Bk C H p m (rowF xs)) (hr : H r = some (.lst (xs.map V.int))) (hS : r ∉ S) (hl : xs.length = m) : Lib C S H m [p] [r] [xs] :=
  Lib.snoc (bs := []) (rs := []) (xss := []) ⟨rfl, rfl, fun i p r xs a => by cases a⟩ hB hr hS hl
end
structure Ent where
  tp : Addr
  f : Addr
  c : Addr
  zs : List Int
def EntAt (S : List Addr) (H : Hp) (e : Ent) : Prop := H e.tp = some (.tup [.ref e.f, .ref e.c]) ∧ H e.f = some (.lst (e.zs.map V.int)) ∧ H e.c = some (.lst (e.zs.map V.int)) ∧ e.tp ∉ S ∧ e.f ∉ S ∧ e.c ∉ S
theorem EntAt.keep {S : List Addr} {H H' : Hp} {e : Ent} (h : EntAt S H e) (k : KeepS S H H') : EntAt S H' e := by
  obtain ⟨a, b, c, x, y, z⟩ := h
  exact ⟨k _ _ a x (by intro ps z; cases z), k _ _ b y (by intro ps z; cases z), k _ _ c z (by intro ps z; cases z), x, y, z⟩
def nLcF (K : PySem.W.Frag) (tt : TT) (elt : TE) (i : Nat) (σ : L2.St) (x : V) (H : Hp) (Q : VK) : Prop := tLc (iList K (tC x)) (gName i) tt elt [i] σ H Q
theorem tLcF_ap {K : PySem.W.Frag} {te elt : TE} {tt : TT} {i : Nat} {σ : L2.St} {H : Hp} {Q : VK} : tLc (iList K te) (gName i) tt elt [i] σ H Q = te σ H fun x H1 => nLcF K tt elt i σ x H1 Q := rfl
theorem lc_none {K : PySem.W.Frag} {tt : TT} {elt : TE} {i : Nat} {σ : L2.St} {H1 : Hp} {Q : VK} {a : Addr} {xs : List V} (hs : SqL K H1 a xs)
    (he : ∀ (j : Nat) (x : V) (H' : Hp) (Q' : Bool → Hp → Prop), xs[j]? = some x → Same H1 H' → Q' false H' → tt ((wipe σ [i]).set i (some x)) H' Q')
    (q : ∀ (D : Addr) (H' : Hp), Same H1 H' → H1 D = none → H' D = some (.lst []) → Q (.ref D) H') : nLcF K tt elt i σ (.ref a) H1 Q := by
  refine ⟨a, rfl, ⟨_, hs⟩, fun D hD => lc_list (K := K) (a := a) (xs := xs) (fun k H' => Same H1 H' ∧ H' D = some (.lst [])) ?_ ?_ ?_ ?_⟩
  · exact ⟨same_new hD _, upd_same⟩
  · rintro k H' _ ⟨s, _⟩
    exact s.seq hs
  · rintro k x H' hx ⟨s, hd⟩
    refine ⟨wipe_one, he k x H' _ hx s ?_⟩
    rw [if_neg (by simp)]
    exact ⟨s, hd⟩
  · rintro H' ⟨s, hd⟩
    exact q D H' s hD hd
end RB
namespace RB
open PySem PySem.Spec PyProof.Rows L2 LamX NdefX
local macro_rules | `(tactic| walk_at "ev") => `(tactic| try simp only [tSeq, tIfS, tTest, tNot, tAnd, tOr, tB, tOp, tUn, tVar, tC, tRet, tAsg, gName, tNext, tCB, tCons, tNil, tDrop, tRaise, tChain, tChain3, tAndV, tOrV, tNotV, tIf, tCall, tFld_ap, tLc_ap, tLcR_ap, tFor_ap, tForR_ap, tForR2_ap, nTry, nTryAs, tCallS, tKnown, tBM, gSub, tSl, tNoPart, tPart, tLst, tTup, wipe,
  List.getElem?_cons_zero, List.getElem?_cons_succ, List.set_cons_zero, List.set_cons_succ, ex_some, ex_bl, ex_int, List.nil_append, List.cons_append, List.append_nil,
  nAdd_ap, nSub_ap, nLt_ap, nLe_ap, nGt_ap, nGe_ap, nMul_ap, nMulW_ap, nDiv_ap, nMod_ap, nPow_ap, nNeg_ap, nMax_ap, nMin_ap, rEq_ap, rNe_ap, nIs_ap, nIsNot_ap, dec_int_non, dec_ref_non, dec_non_non, ref_non, int_non, non_ref, non_int, isi_int_int, isi_int_bool,
  decide_eq_true_eq, Bool.not_eq_true', decide_eq_false_iff_not, decide_true, decide_false, Bool.not_true, Bool.not_false, ite_tt', ite_ff', Bool.false_eq_true, Bool.true_eq_false, not_true_eq_false, not_false_eq_true, if_true, if_false])
theorem place_from {f : Int → Int} : ∀ (n : Nat) (lo : Int), ∃ a, PlaceF f lo (lo + (n : Int) + 1) a
  | 0, lo => ⟨lo, Int.le_refl _, by omega, fun i i0 i1 => by rw [show i = lo by omega]; exact Int.le_refl _, fun i i0 i1 => by omega⟩
  | n + 1, lo => by
    obtain ⟨a, a0, a1, a2, a3⟩ := place_from (f := f) n lo
    by_cases h : f (lo + (n : Int) + 1) < f a
    · refine ⟨lo + (n : Int) + 1, by omega, by omega, fun i i0 i1 => ?_, fun i i0 i1 => ?_⟩
      · by_cases z : i < lo + (n : Int) + 1
        · have := a2 i i0 z
          omega
        · rw [show i = lo + (n : Int) + 1 by omega]
          exact Int.le_refl _
      · have := a2 i i0 i1
        omega
    · refine ⟨a, a0, by omega, fun i i0 i1 => ?_, a3⟩
      by_cases z : i < lo + (n : Int) + 1
      · exact a2 i i0 z
      · rw [show i = lo + (n : Int) + 1 by omega]
        omega
theorem place_ex {f : Int → Int} {lo hi : Int} (h : lo < hi) : ∃ a, PlaceF f lo hi a ∧ True := by
  obtain ⟨a, ha⟩ := place_from (f := f) (hi - lo - 1).toNat lo
  rw [show lo + (((hi - lo - 1).toNat : Nat) : Int) + 1 = hi by omega] at ha
  exact ⟨a, ha, trivial⟩
section
variable {K : PySem.W.Frag} {H : Hp} {Q : VK}
theorem isi_int_str {i : Int} (q : Q (.bl false) H) : rIsi K [.int i, .ty "str"] H Q := ⟨_, _, _, _, false, rfl, .ty _, .base (.int i), kit_ty (by decide +kernel), q⟩
theorem isi_int_list {i : Int} (q : Q (.bl false) H) : rIsi K [.int i, .ty "list"] H Q := ⟨_, _, _, _, false, rfl, .ty _, .base (.int i), kit_ty (by decide +kernel), q⟩
theorem isi_str_str {s : Str} (q : Q (.bl true) H) : rIsi K [.str s, .ty "str"] H Q := ⟨_, _, _, _, true, rfl, .ty _, .base (.str s), kit_ty (by decide +kernel), q⟩
theorem isi_str_list {s : Str} (q : Q (.bl false) H) : rIsi K [.str s, .ty "list"] H Q := ⟨_, _, _, _, false, rfl, .ty _, .base (.str s), kit_ty (by decide +kernel), q⟩
theorem isi_lst_str {p : Addr} {xs : List V} (h : H p = some (.lst xs)) (q : Q (.bl false) H) : rIsi K [.ref p, .ty "str"] H Q := ⟨_, _, _, _, false, rfl, .ty _, .base (.lst h), kit_ty (by decide +kernel), q⟩
theorem rEqS_ap {a b : Str} : rEq (.str a) (.str b) H Q = Q (.bl (decide (a = b))) H := by simp [rEq, scal]
end
section
variable {K : PySem.W.Frag} {C CO CT CZ : Addr}
def Alike (H : Hp) (x y : V) : Prop := (x = .non ∧ y = .non) ∨ (∃ i, x = .int i ∧ y = .int i) ∨ (∃ s, x = .str s ∧ y = .str s) ∨ ∃ (f r : Addr) (xs : List Int), x = .ref f ∧ y = .ref r ∧ H f = some (.lst (xs.map V.int)) ∧ H r = some (.lst (xs.map V.int)) ∧ xs.length ≤ 100000
def sp_l_alike10 : Sp := fun vs H Q _ => ∃ (x y : V), vs = [x, y] ∧ Alike H x y ∧ Q (.bl true) H
theorem alike_ap {H : Hp} {Q : VK} {E : XK} {x y : V} (h : Alike H x y) (q : Q (.bl true) H) : sp_l_alike10 [x, y] H Q E := ⟨x, y, rfl, h, q⟩
theorem p_l_alike10 (vs : List V) (H : Hp) (Q : VK) (E : XK) (h : sp_l_alike10 vs H Q E) : t_l_alike10 K sp_l_whole E { nx := fun _ H' => Q .non H', rt := Q } (start ["_law_found", "_law_due", "_law_k"] vs) H := by
  obtain ⟨x, y, rfl, hA, q⟩ := h
  show t_l_alike10 K sp_l_whole E _ [some x, some y, none] H
  unfold t_l_alike10
  rcases hA with ⟨rfl, rfl⟩ | ⟨i, rfl, rfl⟩ | ⟨s, rfl, rfl⟩ | ⟨f, r, xs, rfl, rfl, hf, hr, hz⟩
  · walk_at "ev"
    exact q
  · walk_at "ev"
    refine isi_int_str ?_
    walk_at "ev"
    refine isi_int_list ?_
    walk_at "ev"
    simp only [l_whole_ap]
    walk_at "ev"
    exact q
  · walk_at "ev"
    rw [if_neg (by simp)]
    refine isi_str_str ?_
    walk_at "ev"
    refine isi_str_str ?_
    simp only [rEqS_ap]
    walk_at "ev"
    exact q
  · walk_at "ev"
    refine isi_lst_str hr ?_
    walk_at "ev"
    refine isi_lst hr ?_
    walk_at "ev"
    refine isi_lst hf ?_
    walk_at "ev"
    refine nLen_ap (SqL.of hf) ?_
    refine nLen_ap (SqL.of hr) ?_
    walk_at "ev"
    try rw [if_neg (by simp)]
    refine nLen_ap (SqL.of hr) ?_
    rw [List.length_map]
    refine for_rpass (by omega) (by omega) (fun j D' hj hrt hnx => ?_) fun o => ?_
    · walk_at "ev"
      have hx : (xs.map V.int)[j]? = some (.int (rowF xs j)) := by
        have := row_at (xs := xs) (k := (j : Int)) (by omega) (by omega)
        simpa using this
      refine ixL_ap (SqL.of hf) hx ?_
      simp only [l_whole_ap]
      walk_at "ev"
      refine ixL_ap (SqL.of hf) hx ?_
      refine ixL_ap (SqL.of hr) hx ?_
      walk_at "ev"
      try rw [if_neg (by simp)]
      exact hnx
    · walk_at "ev"
      exact q
theorem first_uniq {f : Int → Int} {lo m b : Int} {r s : Option Int} (hr : FirstF f lo m b r) (hs : FirstF f lo m b s) : r = s := by
  cases r with
  | none =>
    cases s with
    | none => rfl
    | some k =>
      obtain ⟨k0, k1, k2, k3⟩ := hs
      have := hr k k0 k1
      omega
  | some j =>
    obtain ⟨j0, j1, j2, j3⟩ := hr
    cases s with
    | none =>
      have := hs j j0 j1
      omega
    | some k =>
      obtain ⟨k0, k1, k2, k3⟩ := hs
      congr 1
      by_cases h : j < k
      · have := k3 j j0 h
        omega
      · by_cases h' : k < j
        · have := j3 k k0 h'
          omega
        · omega
theorem Alike.opt {H : Hp} (r : Option Int) : Alike H (optV r) (optV r) := by
  cases r with
  | none => exact .inl ⟨rfl, rfl⟩
  | some i => exact .inr (.inl ⟨i, rfl, rfl⟩)
theorem Alike.int {H : Hp} (i : Int) : Alike H (.int i) (.int i) := .inr (.inl ⟨i, rfl, rfl⟩)
theorem Alike.lst {H : Hp} {p r : Addr} {xs : List Int} (hp : H p = some (.lst (xs.map V.int))) (hr : H r = some (.lst (xs.map V.int))) (hz : xs.length ≤ 100000) : Alike H (.ref p) (.ref r) := .inr (.inr (.inr ⟨p, r, xs, rfl, rfl, hp, hr, hz⟩))
end
end RB
namespace RB
open PySem PySem.Spec PyProof.Rows L2 LamX NdefX
local macro_rules | `(tactic| walk_at "ev") => `(tactic| try simp only [tSeq, tIfS, tTest, tNot, tAnd, tOr, tB, tOp, tUn, tVar, tC, tRet, tAsg, gName, tNext, tCB, tCons, tNil, tDrop, tRaise, tChain, tChain3, tAndV, tOrV, tNotV, tIf, tCall, tFld_ap, tLc_ap, tLcR_ap, tFor_ap, tForR_ap, tForR2_ap, nTry, nTryAs, tCallS, tKnown, tBM, gSub, tSl, tNoPart, tPart, tLst, tTup, wipe,
  List.getElem?_cons_zero, List.getElem?_cons_succ, List.set_cons_zero, List.set_cons_succ, ex_some, ex_bl, ex_int, List.nil_append, List.cons_append, List.append_nil,
  nAdd_ap, nSub_ap, nLt_ap, nLe_ap, nGt_ap, nGe_ap, nMul_ap, nMulW_ap, nDiv_ap, nMod_ap, nPow_ap, nNeg_ap, nMax_ap, nMin_ap, rEq_ap, rNe_ap, nIs_ap, nIsNot_ap, dec_int_non, dec_ref_non, dec_non_non, ref_non, int_non, non_ref, non_int, isi_int_int, isi_int_bool,
  decide_eq_true_eq, Bool.not_eq_true', decide_eq_false_iff_not, decide_true, decide_false, Bool.not_true, Bool.not_false, ite_tt', ite_ff', Bool.false_eq_true, Bool.true_eq_false, not_true_eq_false, not_false_eq_true, if_true, if_false])
structure Rn where
  a : Int
  b : Int
  v : Int
def RunAt (H : Hp) (t : Addr) (r : Rn) : Prop := H t = some (.tup [.int r.a, .int r.b, .int r.v])
structure RT (H : Hp) (ts : List Addr) (rs : List Rn) : Prop where
  len : ts.length = rs.length
  all : ∀ (i : Nat) (t : Addr) (r : Rn), ts[i]? = some t → rs[i]? = some r → RunAt H t r
def RunsAt (H : Hp) (p : Addr) (rs : List Rn) : Prop := ∃ ts : List Addr, H p = some (.lst (ts.map V.ref)) ∧ RT H ts rs
theorem RT.nil {H : Hp} : RT H [] [] := ⟨rfl, fun i t r e => by cases e⟩
theorem RT.keep {H H' : Hp} {ts : List Addr} {rs : List Rn} (h : RT H ts rs) (k : ∀ x o, H x = some o → (∀ ys, o ≠ .lst ys) → (∀ ps, o ≠ .tbl ps) → H' x = some o) : RT H' ts rs := ⟨h.len, fun i t r a b => k _ _ (h.all i t r a b) (by intro ys z; cases z) (by intro ps z; cases z)⟩
theorem RT.get {H : Hp} {ts : List Addr} {rs : List Rn} (h : RT H ts rs) {i : Nat} {t : Addr} (e : ts[i]? = some t) : ∃ r, rs[i]? = some r ∧ RunAt H t r := by
  have hi := (List.getElem?_eq_some_iff.mp e).1
  obtain ⟨r, hr⟩ : ∃ r, rs[i]? = some r := ⟨_, List.getElem?_eq_getElem (h := by have := h.len; omega) ..⟩
  exact ⟨r, hr, h.all i t r e hr⟩
theorem RT.snoc {H : Hp} {ts : List Addr} {rs : List Rn} {t : Addr} {r : Rn} (h : RT H ts rs) (ht : RunAt H t r) : RT H (ts ++ [t]) (rs ++ [r]) := by
  refine ⟨by simp [h.len], fun i t' r' a b => ?_⟩
  have hl := h.len
  by_cases z : i < ts.length
  · rw [List.getElem?_append_left z] at a
    rw [List.getElem?_append_left (by omega)] at b
    exact h.all i _ _ a b
  · have hi : i = ts.length := by
      have := (List.getElem?_eq_some_iff.mp a).1
      rw [List.length_append, List.length_singleton] at this
      omega
    subst hi
    rw [List.getElem?_append_right (Nat.le_refl _), Nat.sub_self] at a
    rw [List.getElem?_append_right (by omega), hl, Nat.sub_self] at b
    cases a
    cases b
    exact ht
def Off (fd : Addr) (H H' : Hp) : Prop := ∀ x o, H x = some o → x ≠ fd → H' x = some o
theorem Off.trans {fd : Addr} {H H1 H2 : Hp} (a : Off fd H H1) (b : Off fd H1 H2) : Off fd H H2 := fun x o e n => b x o (a x o e n) n
theorem Off.of {fd : Addr} {H H1 : Hp} (s : Same H H1) : Off fd H H1 := fun x o e _ => s x o e
theorem Off.put {fd : Addr} {H : Hp} {o : HO} : Off fd H (upd H fd o) := fun x u e n => by rw [upd_ne n]; exact e
theorem RT.off {fd : Addr} {H H' : Hp} {ts : List Addr} {rs : List Rn} {ys : List V} (h : RT H ts rs) (o : Off fd H H') (hf : H fd = some (.lst ys)) : RT H' ts rs := ⟨h.len, fun i t r a b => o _ _ (h.all i t r a b) (fun z => by
  have e := h.all i t r a b
  unfold RunAt at e
  rw [z, hf] at e
  cases e)⟩
theorem RunAt.off {fd : Addr} {H H' : Hp} {t : Addr} {r : Rn} {ys : List V} (h : RunAt H t r) (o : Off fd H H') (hf : H fd = some (.lst ys)) : RunAt H' t r := o _ _ h (fun z => by
  unfold RunAt at h
  rw [z, hf] at h
  cases h)
theorem RunsAt.same {H H' : Hp} {p : Addr} {rs : List Rn} (h : RunsAt H p rs) (s : Same H H') : RunsAt H' p rs := by
  obtain ⟨ts, e, r⟩ := h
  exact ⟨ts, s _ _ e, r.keep fun x o e _ _ => s _ _ e⟩
theorem RunsAt.ext {H H' : Hp} {p : Addr} {rs : List Rn} (h : RunsAt H p rs) (s : ExtN H H') : RunsAt H' p rs := by
  obtain ⟨ts, e, r⟩ := h
  exact ⟨ts, ext_lst s e, r.keep fun x o e _ t => s _ _ e t⟩
section
variable {K : PySem.W.Frag}
theorem for_acc {i : Nat} {tb : TS} {D : Ends} {σ : L2.St} {H : Hp} {p fd : Addr} {ts : List Addr} {rs : List Rn} (g : Rn → List Rn) (hg : ∀ r, (g r).length ≤ 2) (hp : H p = some (.lst (ts.map V.ref))) (hT : RT H ts rs) (hf : H fd = some (.lst [])) (hne : p ≠ fd) (hl : rs.length ≤ 100000)
    (hb : ∀ (t : Addr) (r : Rn) (D' : Ends) (H' : Hp) (fs : List Addr) (rs' : List Rn), r ∈ rs → RunAt H' t r → H' fd = some (.lst (fs.map V.ref)) → RT H' fs rs' → fs.length ≤ 300000 →
      (∀ (H'' : Hp) (fs'' : List Addr), Off fd H' H'' → H'' fd = some (.lst (fs''.map V.ref)) → RT H'' fs'' (rs' ++ g r) → D'.nx (σ.set i (some (.ref t))) H'') → tb D' (σ.set i (some (.ref t))) H')
    (q : ∀ (o : Option V) (H' : Hp) (fs : List Addr), Off fd H H' → H' fd = some (.lst (fs.map V.ref)) → RT H' fs (rs.flatMap g) → D.nx (σ.set i o) H') : nFor K i tb (.ref p) D σ H := by
  have hll := hT.len
  refine lst_ap (SqL.of hp) (fun k σ' H' => (∃ o, σ' = σ.set i o) ∧ Off fd H H' ∧ ∃ fs, H' fd = some (.lst (fs.map V.ref)) ∧ RT H' fs ((rs.take k).flatMap g) ∧ fs.length ≤ 2 * k) ⟨set_self σ i, fun x o e _ => e, [], hf, RT.nil, Nat.le_refl _⟩ (fun k σ' H' _ h => SqL.of (h.2.1 _ _ hp hne)) ?_ ?_
  · rintro k x σ' H' hx ⟨⟨o, rfl⟩, off, fs, hfs, hr, hfl⟩
    rw [List.getElem?_map] at hx
    cases et : ts[k]? with
    | none => rw [et] at hx; cases hx
    | some t =>
      rw [et] at hx
      cases hx
      obtain ⟨r, er, ht⟩ := hT.get et
      have hk := (List.getElem?_eq_some_iff.mp er).1
      rw [List.set_set]
      refine hb t r _ H' fs _ (List.mem_of_getElem? er) (ht.off off hf) hfs hr (by omega) fun H'' fs'' o2 h2 r2 => ⟨⟨_, rfl⟩, off.trans o2, fs'', h2, ?_, ?_⟩
      · rw [take_more er, List.flatMap_append, List.flatMap_cons, List.flatMap_nil, List.append_nil]
        exact r2
      · have e1 := r2.len
        have e2 := hr.len
        rw [List.length_append] at e1
        have := hg r
        omega
  · rintro σ' H' ⟨⟨o, rfl⟩, off, fs, hfs, hr, _⟩
    rw [List.length_map, hll, List.take_length] at hr
    exact q o H' fs off hfs hr
theorem run_push {H : Hp} {fd t : Addr} {fs : List Addr} {rs : List Rn} {r : Rn} {Q : VK} (hf : H fd = some (.lst (fs.map V.ref))) (hr : RT H fs rs) (hl : fs.length ≤ 1000000) (ht : RunAt H t r)
    (q : ∀ H', Off fd H H' → H' fd = some (.lst ((fs ++ [t]).map V.ref)) → RT H' (fs ++ [t]) (rs ++ [r]) → Q .non H') : rAppend (.ref fd) [.ref t] H Q := by
  refine app_ap hf (by rw [List.length_map]; omega) ?_
  have o : Off fd H (upd H fd (.lst (fs.map V.ref ++ [.ref t]))) := .put
  exact q _ o (by rw [upd_same, List.map_append]; rfl) ((hr.off o hf).snoc (ht.off o hf))
def cut1 (c : Int) (r : Rn) : List Rn := if r.a < c ∧ c < r.b then [⟨r.a, c, r.v⟩, ⟨c, r.b, r.v⟩] else [r]
def cutL (c : Int) (rs : List Rn) : List Rn := rs.flatMap (cut1 c)
theorem cut1_len (c : Int) (r : Rn) : (cut1 c r).length ≤ 2 := by unfold cut1; split <;> simp
theorem flat_len {g : Rn → List Rn} (hg : ∀ r, (g r).length ≤ 2) : ∀ rs : List Rn, (rs.flatMap g).length ≤ 2 * rs.length
  | [] => by simp
  | r :: l => by
    have := flat_len hg l
    have := hg r
    rw [List.flatMap_cons, List.length_append, List.length_cons]
    omega
def sp_l_cut : Sp := fun vs H Q _ => ∃ (p : Addr) (rs : List Rn) (c : Int), vs = [.ref p, .int c] ∧ RunsAt H p rs ∧ rs.length ≤ 100000 ∧ ∀ (r : Addr) (H' : Hp), Same H H' → H r = none → RunsAt H' r (cutL c rs) → Q (.ref r) H'
theorem p_l_cut (vs : List V) (H : Hp) (Q : VK) (E : XK) (h : sp_l_cut vs H Q E) : t_l_cut K E { nx := fun _ H' => Q .non H', rt := Q } (start ["_law_runs", "_law_at", "_law_found", "_law_run"] vs) H := by
  obtain ⟨p, rs, c, rfl, ⟨ts, hp, hT⟩, hl, q⟩ := h
  show t_l_cut K E _ [some (.ref p), some (.int c), none, none] H
  unfold t_l_cut
  walk_at "ev"
  refine ⟨Nat.zero_le _, fun fd nf => ?_⟩
  have s0 := same_new nf (.lst [])
  refine for_acc (ts := ts) (fd := fd) (cut1 c) (cut1_len c) (s0 _ _ hp) (hT.keep fun x o e _ _ => s0 _ _ e) upd_same (ne_of_none hp nf) hl ?_ fun o H' fs off hfs hr => ?_
  · intro t r D' H' fs rs' hm ht hfs hr hfl hD
    walk_at "ev"
    refine ixT_ap (j := 0) (SqT.of ht) rfl ?_
    walk_at "ev"
    have same : ∀ H'', Off fd H' H'' → RT H'' (fs ++ [t]) (rs' ++ [r]) → ¬ (r.a < c ∧ c < r.b) → H'' fd = some (.lst ((fs ++ [t]).map V.ref)) → D'.nx [some (.ref p), some (.int c), some (.ref fd), some (.ref t)] H'' := fun H'' o r2 hc h2 => hD H'' _ o h2 (by unfold cut1; rw [if_neg hc]; exact r2)
    split
    · rename_i h1
      refine ixT_ap (j := 1) (SqT.of ht) rfl ?_
      walk_at "ev"
      split
      · rename_i h2
        refine ⟨ty_lst hfs, ?_⟩
        refine ixT_ap (j := 0) (SqT.of ht) rfl ?_
        walk_at "ev"
        refine ixT_ap (j := 2) (SqT.of ht) rfl ?_
        walk_at "ev"
        refine ⟨by show 3 ≤ sizeLine; decide, fun t1 n1 => ?_⟩
        have s1 := same_new n1 (.tup [.int r.a, .int c, .int r.v])
        refine run_push (r := ⟨r.a, c, r.v⟩) (s1 _ _ hfs) (hr.keep fun x o e _ _ => s1 _ _ e) (by omega) upd_same fun H2 o2 f2 r2 => ?_
        have ht2 : RunAt H2 t r := RunAt.off (fd := fd) (s1 _ _ ht) o2 (s1 _ _ hfs)
        refine ⟨ty_lst f2, ?_⟩
        refine ixT_ap (j := 1) (SqT.of ht2) rfl ?_
        walk_at "ev"
        refine ixT_ap (j := 2) (SqT.of ht2) rfl ?_
        walk_at "ev"
        refine ⟨by show 3 ≤ sizeLine; decide, fun t2 n2 => ?_⟩
        have s2 := same_new n2 (.tup [.int c, .int r.b, .int r.v])
        refine run_push (r := ⟨c, r.b, r.v⟩) (s2 _ _ f2) (r2.keep fun x o e _ _ => s2 _ _ e) (by rw [List.length_append, List.length_singleton]; omega) upd_same fun H3 o3 f3 r3 => ?_
        refine hD H3 _ ((Off.of s1).trans (o2.trans ((Off.of s2).trans o3))) f3 ?_
        unfold cut1
        rw [if_pos ⟨h1, h2⟩]
        rw [List.append_assoc rs'] at r3
        exact r3
      · rename_i h2
        refine ⟨ty_lst hfs, run_push hfs hr (by omega) ht fun H2 o2 f2 r2 => same H2 o2 r2 (fun z => h2 z.2) f2⟩
    · rename_i h1
      refine ⟨ty_lst hfs, run_push hfs hr (by omega) ht fun H2 o2 f2 r2 => same H2 o2 r2 (fun z => h1 z.1) f2⟩
  · walk_at "ev"
    refine q fd H' (fun x o e => off _ _ (s0 _ _ e) (fun z => by rw [z, nf] at e; cases e)) nf ⟨fs, hfs, hr⟩
def chg1 (op : Int → Int) (lo hi : Int) (r : Rn) : List Rn := if r.a < lo ∨ hi < r.b then [r] else [⟨r.a, r.b, op r.v⟩]
def chgL (op : Int → Int) (lo hi : Int) (rs : List Rn) : List Rn := if lo = hi then rs else (cutL hi (cutL lo rs)).flatMap (chg1 op lo hi)
theorem chg1_len (op : Int → Int) (lo hi : Int) (r : Rn) : (chg1 op lo hi r).length ≤ 2 := by unfold chg1; split <;> simp
def opOf (w : Str) (z : Int) : Int → Int := if w = "fill" then fun _ => z else fun v => v + z
def sp_l_changed11 : Sp := fun vs H Q _ => ∃ (p : Addr) (rs : List Rn) (w : Str) (lo hi z : Int), vs = [.ref p, .str w, .int lo, .int hi, .int z] ∧ RunsAt H p rs ∧ rs.length ≤ 20000 ∧ ∀ (r : Addr) (H' : Hp), Same H H' → RunsAt H' r (chgL (opOf w z) lo hi rs) → Q (.ref r) H'
theorem p_l_changed11 (vs : List V) (H : Hp) (Q : VK) (E : XK) (h : sp_l_changed11 vs H Q E) : t_l_changed11 K sp_l_cut E { nx := fun _ H' => Q .non H', rt := Q } (start ["_law_runs", "_law_word", "_law_low", "_law_high", "_law_number", "_law_found", "_law_run"] vs) H := by
  obtain ⟨p, rs, w, lo, hi, z, rfl, hR, hl, q⟩ := h
  show t_l_changed11 K sp_l_cut E _ [some (.ref p), some (.str w), some (.int lo), some (.int hi), some (.int z), none, none] H
  unfold t_l_changed11
  walk_at "ev"
  split
  · rename_i e
    refine q p H (.refl H) ?_
    unfold chgL
    rw [if_pos e]
    exact hR
  rename_i hne
  refine ⟨Nat.zero_le _, fun fd nf => ?_⟩
  have s0 := same_new nf (.lst [])
  have f0 : (upd H fd (.lst [])) fd = some (.lst []) := upd_same
  have hR0 := hR.same s0
  generalize upd H fd (.lst []) = H0 at s0 f0 hR0
  walk_at "ev"
  have l1 := flat_len (cut1_len lo) rs
  refine ⟨p, rs, lo, rfl, hR0, by omega, fun r1 H1 s1 n1 R1 => ?_⟩
  have l2 := flat_len (cut1_len hi) (cutL lo rs)
  refine ⟨r1, _, hi, rfl, R1, by show (rs.flatMap (cut1 lo)).length ≤ _; omega, fun r2 H2 s2 n2 ⟨ts, hp2, hT2⟩ => ?_⟩
  have f2 := s2 _ _ (s1 _ _ f0)
  refine for_acc (ts := ts) (fd := fd) (chg1 (opOf w z) lo hi) (chg1_len _ lo hi) hp2 hT2 f2 (fun e => by rw [e, s1 _ _ f0] at n2; cases n2) (by
    have : (cutL hi (cutL lo rs)).length ≤ 2 * (cutL lo rs).length := l2
    have : (cutL lo rs).length ≤ 2 * rs.length := l1
    omega) ?_ fun o H' fs off hfs hr => ?_
  · intro t r D' H' fs rs' hm ht hfs hr hfl hD
    walk_at "ev"
    refine ixT_ap (j := 0) (SqT.of ht) rfl ?_
    walk_at "ev"
    have keep : r.a < lo ∨ hi < r.b → rAppend (.ref fd) [.ref t] H' fun _ H'' => D'.nx [some (.ref p), some (.str w), some (.int lo), some (.int hi), some (.int z), some (.ref fd), some (.ref t)] H'' := fun hc => run_push hfs hr (by omega) ht fun H3 o3 f3 r3 => hD H3 _ o3 f3 (by unfold chg1; rw [if_pos hc]; exact r3)
    split
    · rename_i h1
      exact ⟨ty_lst hfs, keep (.inl h1)⟩
    rename_i h1
    refine ixT_ap (j := 1) (SqT.of ht) rfl ?_
    walk_at "ev"
    split
    · rename_i h2
      exact ⟨ty_lst hfs, keep (.inr h2)⟩
    rename_i h2
    simp only [rEqS_ap]
    walk_at "ev"
    split
    · rename_i hw
      refine ⟨ty_lst hfs, ?_⟩
      refine ixT_ap (j := 0) (SqT.of ht) rfl ?_
      refine ixT_ap (j := 1) (SqT.of ht) rfl ?_
      walk_at "ev"
      refine ⟨by show 3 ≤ sizeLine; decide, fun t1 m1 => ?_⟩
      have s3 := same_new m1 (.tup [.int r.a, .int r.b, .int z])
      refine run_push (r := ⟨r.a, r.b, z⟩) (s3 _ _ hfs) (hr.keep fun x o e _ _ => s3 _ _ e) (by omega) upd_same fun H3 o3 f3 r3 => hD H3 _ ((Off.of s3).trans o3) f3 ?_
      unfold chg1 opOf
      rw [if_neg (by omega), if_pos hw]
      exact r3
    · rename_i hw
      refine ⟨ty_lst hfs, ?_⟩
      refine ixT_ap (j := 0) (SqT.of ht) rfl ?_
      refine ixT_ap (j := 1) (SqT.of ht) rfl ?_
      refine ixT_ap (j := 2) (SqT.of ht) rfl ?_
      walk_at "ev"
      refine ⟨by show 3 ≤ sizeLine; decide, fun t1 m1 => ?_⟩
      have s3 := same_new m1 (.tup [.int r.a, .int r.b, .int (r.v + z)])
      refine run_push (r := ⟨r.a, r.b, r.v + z⟩) (s3 _ _ hfs) (hr.keep fun x o e _ _ => s3 _ _ e) (by omega) upd_same fun H3 o3 f3 r3 => hD H3 _ ((Off.of s3).trans o3) f3 ?_
      unfold chg1 opOf
      rw [if_neg (by omega), if_neg hw]
      exact r3
  · walk_at "ev"
    refine q fd H' (fun x o e => off _ _ (s2 _ _ (s1 _ _ (s0 _ _ e))) (fun y => by rw [y, nf] at e; cases e)) ⟨fs, hfs, ?_⟩
    unfold chgL
    rw [if_neg hne]
    exact hr
def wi1 (lo hi : Int) (r : Rn) : List Rn := if max r.a lo < min r.b hi then [⟨max r.a lo, min r.b hi, r.v⟩] else []
def wiL (lo hi : Int) (rs : List Rn) : List Rn := rs.flatMap (wi1 lo hi)
theorem wi1_len (lo hi : Int) (r : Rn) : (wi1 lo hi r).length ≤ 2 := by unfold wi1; split <;> simp
def sp_l_within : Sp := fun vs H Q _ => ∃ (p : Addr) (rs : List Rn) (lo hi : Int), vs = [.ref p, .int lo, .int hi] ∧ RunsAt H p rs ∧ rs.length ≤ 100000 ∧ ∀ (r : Addr) (H' : Hp), Same H H' → RunsAt H' r (wiL lo hi rs) → Q (.ref r) H'
theorem p_l_within (vs : List V) (H : Hp) (Q : VK) (E : XK) (h : sp_l_within vs H Q E) : t_l_within K E { nx := fun _ H' => Q .non H', rt := Q } (start ["_law_runs", "_law_low", "_law_high", "_law_found", "_law_run"] vs) H := by
  obtain ⟨p, rs, lo, hi, rfl, ⟨ts, hp, hT⟩, hl, q⟩ := h
  show t_l_within K E _ [some (.ref p), some (.int lo), some (.int hi), none, none] H
  unfold t_l_within
  walk_at "ev"
  refine ⟨Nat.zero_le _, fun fd nf => ?_⟩
  have s0 := same_new nf (.lst [])
  refine for_acc (ts := ts) (fd := fd) (wi1 lo hi) (wi1_len lo hi) (s0 _ _ hp) (hT.keep fun x o e _ _ => s0 _ _ e) upd_same (ne_of_none hp nf) hl ?_ fun o H' fs off hfs hr => ?_
  · intro t r D' H' fs rs' hm ht hfs hr hfl hD
    walk_at "ev"
    refine ixT_ap (j := 0) (SqT.of ht) rfl ?_
    walk_at "ev"
    refine ixT_ap (j := 1) (SqT.of ht) rfl ?_
    walk_at "ev"
    split
    · rename_i hc
      refine ⟨ty_lst hfs, ?_⟩
      refine ixT_ap (j := 0) (SqT.of ht) rfl ?_
      walk_at "ev"
      refine ixT_ap (j := 1) (SqT.of ht) rfl ?_
      walk_at "ev"
      refine ixT_ap (j := 2) (SqT.of ht) rfl ?_
      walk_at "ev"
      refine ⟨by show 3 ≤ sizeLine; decide, fun t1 m1 => ?_⟩
      have s3 := same_new m1 (.tup [.int (max r.a lo), .int (min r.b hi), .int r.v])
      refine run_push (r := ⟨max r.a lo, min r.b hi, r.v⟩) (s3 _ _ hfs) (hr.keep fun x o e _ _ => s3 _ _ e) (by omega) upd_same fun H3 o3 f3 r3 => hD H3 _ ((Off.of s3).trans o3) f3 ?_
      unfold wi1
      rw [if_pos hc]
      exact r3
    · rename_i hc
      refine hD H' fs (fun x o e _ => e) hfs ?_
      unfold wi1
      rw [if_neg hc, List.append_nil]
      exact hr
  · walk_at "ev"
    exact q fd H' (fun x o e => off _ _ (s0 _ _ e) (fun z => by rw [z, nf] at e; cases e)) ⟨fs, hfs, hr⟩
def Cov (f : Int → Int) : Int → List Rn → Int → Prop
  | lo, [], m => lo = m
  | lo, r :: l, m => r.a = lo ∧ r.a ≤ r.b ∧ (∀ i, r.a ≤ i → i < r.b → f i = r.v) ∧ Cov f r.b l m
theorem Cov.le {f : Int → Int} : ∀ {rs : List Rn} {lo m : Int}, Cov f lo rs m → lo ≤ m
  | [], lo, m, h => by have : lo = m := h; omega
  | r :: l, lo, m, h => by
    obtain ⟨h1, h2, _, h4⟩ := h
    have := h4.le
    omega
theorem Cov.app {f : Int → Int} : ∀ {xs ys : List Rn} {lo m : Int}, Cov f lo (xs ++ ys) m ↔ ∃ c, Cov f lo xs c ∧ Cov f c ys m
  | [], ys, lo, m => ⟨fun h => ⟨lo, rfl, h⟩, fun ⟨c, h1, h2⟩ => by have : lo = c := h1; rw [this]; exact h2⟩
  | r :: l, ys, lo, m => by
    constructor
    · rintro ⟨h1, h2, h3, h4⟩
      obtain ⟨c, a, b⟩ := Cov.app.mp h4
      exact ⟨c, ⟨h1, h2, h3, a⟩, b⟩
    · rintro ⟨c, ⟨h1, h2, h3, h4⟩, b⟩
      exact ⟨h1, h2, h3, Cov.app.mpr ⟨c, h4, b⟩⟩
theorem Cov.cut {f : Int → Int} {c : Int} : ∀ {rs : List Rn} {lo m : Int}, Cov f lo rs m → Cov f lo (cutL c rs) m
  | [], lo, m, h => h
  | r :: l, lo, m, h => by
    obtain ⟨h1, h2, h3, h4⟩ := h
    have ih := h4.cut (c := c)
    show Cov f lo (cut1 c r ++ cutL c l) m
    unfold cut1
    split
    · rename_i hc
      exact ⟨h1, by show r.a ≤ c; omega, fun i i0 i1 => h3 i i0 (by have : i < c := i1; omega), rfl, by show c ≤ r.b; omega, fun i i0 i1 => h3 i (by have : c ≤ i := i0; omega) i1, ih⟩
    · exact ⟨h1, h2, h3, ih⟩
def NoX (c : Int) (rs : List Rn) : Prop := ∀ r ∈ rs, ¬ (r.a < c ∧ c < r.b)
theorem noX_cut {c : Int} {rs : List Rn} : NoX c (cutL c rs) := fun r hr => by
  obtain ⟨r', hr', hm⟩ := List.mem_flatMap.mp hr
  unfold cut1 at hm
  split at hm
  · simp only [List.mem_cons, List.not_mem_nil, or_false] at hm
    rcases hm with rfl | rfl
    · show ¬ (r'.a < c ∧ c < c)
      omega
    · show ¬ (c < c ∧ c < r'.b)
      omega
  · rename_i hc
    obtain rfl := List.mem_singleton.mp hm
    exact hc
theorem NoX.cut {c d : Int} {rs : List Rn} (h : NoX c rs) : NoX c (cutL d rs) := fun r hr => by
  obtain ⟨r', hr', hm⟩ := List.mem_flatMap.mp hr
  have := h r' hr'
  unfold cut1 at hm
  split at hm
  · simp only [List.mem_cons, List.not_mem_nil, or_false] at hm
    rcases hm with rfl | rfl
    · show ¬ (r'.a < c ∧ c < d)
      omega
    · show ¬ (d < c ∧ c < r'.b)
      omega
  · obtain rfl := List.mem_singleton.mp hm
    exact this
theorem Cov.map {f : Int → Int} {op : Int → Int} {c d : Int} (hcd : c ≤ d) : ∀ {rs : List Rn} {lo m : Int}, Cov f lo rs m → NoX c rs → NoX d rs → Cov (updR op c d f) lo (rs.flatMap (chg1 op c d)) m
  | [], lo, m, h, _, _ => h
  | r :: l, lo, m, h, hc, hd => by
    obtain ⟨h1, h2, h3, h4⟩ := h
    have ih := h4.map (op := op) hcd (fun x hx => hc x (List.mem_cons_of_mem _ hx)) (fun x hx => hd x (List.mem_cons_of_mem _ hx))
    have xc := hc r List.mem_cons_self
    have xd := hd r List.mem_cons_self
    show Cov _ lo (chg1 op c d r ++ l.flatMap (chg1 op c d)) m
    unfold chg1
    split
    · rename_i z
      refine ⟨h1, h2, fun i i0 i1 => ?_, ih⟩
      unfold updR
      rw [if_neg (by omega)]
      exact h3 i i0 i1
    · rename_i z
      refine ⟨h1, h2, fun i i0 i1 => ?_, ih⟩
      have i0' : r.a ≤ i := i0
      have i1' : i < r.b := i1
      unfold updR
      rw [if_pos (by omega), h3 i i0 i1]
theorem Cov.congr {f g : Int → Int} : ∀ {rs : List Rn} {lo m : Int}, Cov f lo rs m → (∀ i, lo ≤ i → i < m → f i = g i) → Cov g lo rs m
  | [], lo, m, h, _ => h
  | r :: l, lo, m, h, e => by
    obtain ⟨h1, h2, h3, h4⟩ := h
    have := h4.le
    exact ⟨h1, h2, fun i i0 i1 => by rw [← e i (by omega) (by omega)]; exact h3 i i0 i1, h4.congr fun i i0 i1 => e i (by omega) i1⟩
theorem Cov.chg {f : Int → Int} {op : Int → Int} {c d lo m : Int} {rs : List Rn} (hcd : c ≤ d) (h : Cov f lo rs m) : Cov (updR op c d f) lo (chgL op c d rs) m := by
  unfold chgL
  split
  · rename_i e
    refine h.congr fun i _ _ => ?_
    unfold updR
    rw [if_neg (by omega)]
  · exact h.cut.cut.map hcd (noX_cut.cut) noX_cut
def Str1 (rs : List Rn) : Prop := ∀ r ∈ rs, r.a < r.b
theorem Str1.cut {c : Int} {rs : List Rn} (h : Str1 rs) : Str1 (cutL c rs) := fun r hr => by
  obtain ⟨r', hr', hm⟩ := List.mem_flatMap.mp hr
  have := h r' hr'
  unfold cut1 at hm
  split at hm
  · rename_i hc
    simp only [List.mem_cons, List.not_mem_nil, or_false] at hm
    rcases hm with rfl | rfl
    · exact hc.1
    · exact hc.2
  · obtain rfl := List.mem_singleton.mp hm
    exact this
theorem Str1.chg {op : Int → Int} {c d : Int} {rs : List Rn} (h : Str1 rs) : Str1 (chgL op c d rs) := by
  unfold chgL
  split
  · exact h
  · intro r hr
    obtain ⟨r', hr', hm⟩ := List.mem_flatMap.mp hr
    have := h.cut.cut r' hr'
    unfold chg1 at hm
    split at hm
    · obtain rfl := List.mem_singleton.mp hm
      exact this
    · obtain rfl := List.mem_singleton.mp hm
      exact this
theorem wi_none {f : Int → Int} {c d : Int} : ∀ {rs : List Rn} {lo m : Int}, Cov f lo rs m → d ≤ max lo c → wiL c d rs = []
  | [], _, _, _, _ => rfl
  | r :: l, lo, m, h, e => by
    obtain ⟨h1, h2, h3, h4⟩ := h
    show wi1 c d r ++ wiL c d l = []
    unfold wi1
    rw [if_neg (by omega), wi_none h4 (by omega)]
    rfl
theorem Cov.wi {f : Int → Int} {c d : Int} (hcd : c ≤ d) : ∀ {rs : List Rn} {lo m : Int}, Cov f lo rs m → d ≤ m → max lo c ≤ d → Cov f (max lo c) (wiL c d rs) d
  | [], lo, m, h, hm, e => by
    have : lo = m := h
    show max lo c = d
    omega
  | r :: l, lo, m, h, hm, e => by
    obtain ⟨h1, h2, h3, h4⟩ := h
    show Cov f (max lo c) (wi1 c d r ++ wiL c d l) d
    unfold wi1
    split
    · rename_i hc
      refine ⟨by show max r.a c = max lo c; rw [h1], Int.le_of_lt hc, fun i i0 i1 => h3 i (by have : max r.a c ≤ i := i0; omega) (by have : i < min r.b d := i1; omega), ?_⟩
      show Cov f (min r.b d) (wiL c d l) d
      by_cases hb : r.b < d
      · have := h4.wi hcd hm (show max r.b c ≤ d by omega)
        rw [show max r.b c = min r.b d by omega] at this
        exact this
      · rw [wi_none h4 (by omega)]
        show min r.b d = d
        omega
    · rename_i hc
      show Cov f (max lo c) (wiL c d l) d
      by_cases hb : r.b ≤ c ∨ r.b = r.a
      · have := h4.wi hcd hm (show max r.b c ≤ d by omega)
        rw [show max r.b c = max lo c by omega] at this
        exact this
      · rw [wi_none h4 (by omega)]
        show max lo c = d
        omega
theorem wi_str {c d : Int} {rs : List Rn} : Str1 (wiL c d rs) := fun r hr => by
  obtain ⟨r', _, hm⟩ := List.mem_flatMap.mp hr
  unfold wi1 at hm
  split at hm
  · rename_i hc
    obtain rfl := List.mem_singleton.mp hm
    exact hc
  · cases hm
theorem Cov.seg {f : Int → Int} : ∀ {rs : List Rn} {lo m : Int}, Cov f lo rs m → RB.seg f lo (m - lo).toNat = rs.flatMap fun r => List.replicate (r.b - r.a).toNat r.v
  | [], lo, m, h => by
    have : lo = m := h
    rw [show (m - lo).toNat = 0 by omega]
    rfl
  | r :: l, lo, m, h => by
    obtain ⟨h1, h2, h3, h4⟩ := h
    have := h4.le
    rw [List.flatMap_cons, ← h4.seg, show (m - lo).toNat = (r.b - r.a).toNat + (m - r.b).toNat by omega, seg_append, show lo + (((r.b - r.a).toNat : Nat) : Int) = r.b by omega]
    congr 1
    rw [← seg_const r.v lo]
    exact seg_congr fun i hi => h3 _ (by omega) (by omega)
theorem Cov.sum {f : Int → Int} {rs : List Rn} {lo m : Int} (h : Cov f lo rs m) : (RB.seg f lo (m - lo).toNat).sum = (rs.map fun r => (r.b - r.a) * r.v).sum := by
  rw [h.seg]
  have : ∀ (rs : List Rn) (lo : Int), Cov f lo rs m → (rs.flatMap fun r => List.replicate (r.b - r.a).toNat r.v).sum = (rs.map fun r => (r.b - r.a) * r.v).sum := by
    intro rs
    induction rs with
    | nil => intro _ _; rfl
    | cons r l ih =>
      intro lo h
      obtain ⟨h1, h2, h3, h4⟩ := h
      rw [List.flatMap_cons, List.sum_append, List.map_cons, List.sum_cons, sum_replicate, ih _ h4, show (((r.b - r.a).toNat : Nat) : Int) = r.b - r.a by omega]
  exact this rs lo h
def best (r0 : Rn) : List Rn → Rn
  | [] => r0
  | r :: l => best (if r.v < r0.v then r else r0) l
theorem best_snoc (r : Rn) : ∀ (l : List Rn) (r0 : Rn), best r0 (l ++ [r]) = if r.v < (best r0 l).v then r else best r0 l
  | [], _ => rfl
  | x :: l, r0 => best_snoc r l _
theorem best_place {f : Int → Int} {lo : Int} : ∀ {l : List Rn} {c m : Int} {r0 : Rn}, Cov f c l m → Str1 l → lo ≤ r0.a → r0.a < c → f r0.a = r0.v → (∀ i, lo ≤ i → i < c → r0.v ≤ f i) → (∀ i, lo ≤ i → i < r0.a → r0.v < f i) → PlaceF f lo m (best r0 l).a ∧ f (best r0 l).a = (best r0 l).v
  | [], c, m, r0, h, _, h1, h2, h3, h4, h5 => by
    obtain rfl : c = m := h
    exact ⟨⟨h1, h2, fun i i0 i1 => by show f r0.a ≤ f i; rw [h3]; exact h4 i i0 i1, fun i i0 i1 => by show f r0.a < f i; rw [h3]; exact h5 i i0 i1⟩, h3⟩
  | r :: l, c, m, r0, h, hs, h1, h2, h3, h4, h5 => by
    obtain ⟨g1, g2, g3, g4⟩ := h
    have hr := hs r List.mem_cons_self
    have hs' : Str1 l := fun x hx => hs x (List.mem_cons_of_mem _ hx)
    show PlaceF f lo m (best (if r.v < r0.v then r else r0) l).a ∧ _
    by_cases hv : r.v < r0.v
    · have e : best r0 (r :: l) = best r l := by show best (if r.v < r0.v then r else r0) l = _; rw [if_pos hv]
      rw [e, if_pos hv]
      refine best_place g4 hs' (by omega) hr (g3 _ (Int.le_refl _) hr) (fun i i0 i1 => ?_) fun i i0 i1 => ?_
      · by_cases z : i < c
        · have := h4 i i0 z
          omega
        · rw [g3 i (by omega) i1]
          exact Int.le_refl _
      · have := h4 i i0 (by omega)
        omega
    · have e : best r0 (r :: l) = best r0 l := by show best (if r.v < r0.v then r else r0) l = _; rw [if_neg hv]
      rw [e, if_neg hv]
      refine best_place g4 hs' h1 (by omega) h3 (fun i i0 i1 => ?_) h5
      by_cases z : i < c
      · exact h4 i i0 z
      · rw [g3 i (by omega) i1]
        omega
def DueIs (f : Int → Int) (w : Str) (lo hi : Int) (v : V) (H : Hp) : Prop :=
  (w = "total" ∧ v = .int (seg f lo (hi - lo).toNat).sum) ∨ (w = "list" ∧ ∃ p, v = .ref p ∧ H p = some (.lst ((seg f lo (hi - lo).toNat).map V.int))) ∨ (w = "least" ∧ ∃ a, PlaceF f lo hi a ∧ v = .int (f a)) ∨ (w = "place" ∧ ∃ a, PlaceF f lo hi a ∧ v = .int a)
def sp_l_due14 : Sp := fun vs H Q _ => ∃ (p : Addr) (rs : List Rn) (f : Int → Int) (w : Str) (lo hi m : Int), vs = [.ref p, .str w, .int lo, .int hi] ∧ RunsAt H p rs ∧ Cov f 0 rs m ∧ rs.length ≤ 100000 ∧ m ≤ 1000000000000 ∧ 0 ≤ lo ∧ lo ≤ hi ∧ hi ≤ m ∧
  (w = "total" ∨ w = "list" ∧ hi - lo ≤ 1000 ∨ (w = "least" ∨ w = "place") ∧ lo < hi) ∧ ∀ v H', Same H H' → DueIs f w lo hi v H' → (∀ r, v = .ref r → H r = none) → Q v H'
theorem p_l_due14 (vs : List V) (H : Hp) (Q : VK) (E : XK) (h : sp_l_due14 vs H Q E) :
    t_l_due11 K sp_l_within E { nx := fun _ H' => Q .non H', rt := Q } (start ["_law_runs", "_law_word", "_law_low", "_law_high", "_law_some", "_law_row", "_law_run", "_law_best"] vs) H := by
  obtain ⟨p, rs, f, w, lo, hi, m, rfl, hR, hC, hl, hm, h0, h1, h2, hw, q⟩ := h
  show t_l_due11 K sp_l_within E _ [some (.ref p), some (.str w), some (.int lo), some (.int hi), none, none, none, none] H
  have hW := hC.wi h1 h2 (show max 0 lo ≤ hi by omega)
  rw [show max 0 lo = lo by omega] at hW
  have hstr : Str1 (wiL lo hi rs) := wi_str
  have hlen := flat_len (wi1_len lo hi) rs
  have hlen' : (wiL lo hi rs).length ≤ 2 * rs.length := hlen
  have inb : ∀ r ∈ wiL lo hi rs, lo ≤ r.a ∧ r.b ≤ hi := fun r hr => by
    obtain ⟨r', _, hm'⟩ := List.mem_flatMap.mp hr
    unfold wi1 at hm'
    split at hm'
    · obtain rfl := List.mem_singleton.mp hm'
      show lo ≤ max r'.a lo ∧ min r'.b hi ≤ hi
      omega
    · cases hm'
  unfold t_l_due11
  walk_at "ev"
  refine ⟨p, rs, lo, hi, rfl, hR, hl, fun sm H1 s1 ⟨ts, hp1, hT1⟩ => ?_⟩
  generalize wiL lo hi rs = W at hW hstr hlen' hT1 inb
  have hlt := hT1.len
  simp only [rEqS_ap]
  walk_at "ev"
  split
  · rename_i e
    refine lc_map (ys := (W.map fun r => (r.b - r.a) * r.v).map V.int) (SqL.of hp1) (by rw [List.length_map]; omega) (by simp only [List.length_map]; omega) ?_ fun r2 H2 s2 n2 e2 => ?_
    · intro j x y H' Q' hx hy s' q'
      rw [List.getElem?_map] at hx hy
      rw [List.getElem?_map] at hy
      cases et : ts[j]? with
      | none => rw [et] at hx; cases hx
      | some t =>
        rw [et] at hx
        cases hx
        obtain ⟨r, er, ht⟩ := hT1.get et
        rw [er] at hy
        cases hy
        have ht' := s' _ _ ht
        have hin := inb r (List.mem_of_getElem? er)
        have hst := hstr r (List.mem_of_getElem? er)
        walk_at "ev"
        refine ixT_ap (j := 1) (SqT.of ht') rfl ?_
        refine ixT_ap (j := 0) (SqT.of ht') rfl ?_
        walk_at "ev"
        refine ixT_ap (j := 2) (SqT.of ht') rfl ?_
        walk_at "ev"
        exact ⟨.inl ⟨by omega, by omega⟩, q'⟩
    · refine ⟨r2, _, rfl, SqL.of e2, q _ _ (s1.trans s2) (.inl ⟨e, ?_⟩) (by intro r z; cases z)⟩
      rw [hW.sum]
  rename_i hnt
  split
  · rename_i e
    have hz : hi - lo ≤ 1000 := by
      rcases hw with z | ⟨_, z⟩ | ⟨z | z, _⟩
      · exact absurd z hnt
      · exact z
      · rw [e] at z; exact absurd z (by decide)
      · rw [e] at z; exact absurd z (by decide)
    refine ⟨Nat.zero_le _, fun rw0 nw => ?_⟩
    have s2 := same_new nw (.lst [])
    refine lst_ap (SqL.of (s2 _ _ hp1)) (fun k σ H' => Same H1 H' ∧ ∃ (rw : Addr) (o6 : Option V) (c : Int), σ = [some (.ref p), some (.str w), some (.int lo), some (.int hi), some (.ref sm), some (.ref rw), o6, none] ∧ Cov f lo (W.take k) c ∧ c ≤ hi ∧ H' rw = some (.lst ((seg f lo (c - lo).toNat).map V.int)) ∧ H rw = none) ⟨s2, rw0, _, lo, rfl, rfl, h1, by rw [upd_same, show (lo - lo).toNat = 0 by omega]; rfl, s1.free nw⟩ (fun k σ H' _ h => SqL.of (h.1 _ _ hp1)) ?_ ?_
    · rintro k x σ H' hx ⟨s', rw, o6, c, rfl, hc, hch, hrw, _⟩
      rw [List.getElem?_map] at hx
      cases et : ts[k]? with
      | none => rw [et] at hx; cases hx
      | some t =>
        rw [et] at hx
        cases hx
        obtain ⟨r, er, ht⟩ := hT1.get et
        have ht' := s' _ _ ht
        have hin := inb r (List.mem_of_getElem? er)
        have hst := hstr r (List.mem_of_getElem? er)
        have hcov : Cov f lo (W.take (k + 1)) r.b := by
          have e1 : W = W.take k ++ W.drop k := (List.take_append_drop k W).symm
          rw [e1] at hW
          obtain ⟨c', a1, a2⟩ := Cov.app.mp hW
          have ek : W.drop k = r :: W.drop (k + 1) := by
            have hk := (List.getElem?_eq_some_iff.mp er).1
            rw [List.drop_eq_getElem_cons hk]
            congr 1
            exact (List.getElem?_eq_some_iff.mp er).2
          rw [ek] at a2
          obtain ⟨b1, b2, b3, b4⟩ := a2
          rw [take_more er]
          exact Cov.app.mpr ⟨c', a1, b1, b2, b3, rfl⟩
        have hcl := hc.le
        have ec : c = r.a := by
          have e1 := hcov
          rw [take_more er] at e1
          obtain ⟨c', a1, b1, b2, b3, b4⟩ := Cov.app.mp e1
          have u : ∀ {l : List Rn} {lo c d : Int}, Cov f lo l c → Cov f lo l d → c = d := by
            intro l
            induction l with
            | nil => intro lo c d h h'; exact (show lo = c from h).symm.trans h'
            | cons x l ih => intro lo c d h h'; exact ih h.2.2.2 h'.2.2.2
          rw [u hc a1]
          exact b1.symm
        walk_at "ev"
        refine ixT_ap (j := 2) (SqT.of ht') rfl ?_
        walk_at "ev"
        refine ⟨by show 1 ≤ sizeLine; decide, fun q0 n0 => ?_⟩
        have s3 := same_new n0 (.lst [V.int r.v])
        refine ixT_ap (j := 1) (SqT.of (s3 _ _ ht')) rfl ?_
        refine ixT_ap (j := 0) (SqT.of (s3 _ _ ht')) rfl ?_
        walk_at "ev"
        refine ⟨q0, _, [.int r.v], rfl, rfl, upd_same, by omega, by omega, by rw [List.length_singleton, Nat.one_mul]; exact Nat.le_of_lt (size_of (by omega)), fun q1 n1 => ?_⟩
        have s4 := same_new n1 (.lst (List.replicate (r.b - r.a).toNat [V.int r.v]).flatten)
        refine ⟨rw, q1, _, _, rfl, rfl, s4 _ _ (s3 _ _ hrw), upd_same, ?_, fun q2 n2 => ?_⟩
        · rw [List.flatten_replicate_singleton, List.length_map, seg_length, List.length_replicate]
          exact Nat.le_of_lt (size_of (by omega))
        · have s5 := same_new n2 (.lst ((seg f lo (c - lo).toNat).map V.int ++ (List.replicate (r.b - r.a).toNat [V.int r.v]).flatten))
          refine ⟨s'.trans (s3.trans (s4.trans s5)), q2, _, r.b, rfl, hcov, by omega, ?_, s1.free (s'.free (s3.free (s4.free n2)))⟩
          rw [upd_same, List.flatten_replicate_singleton, hc.seg, hcov.seg, take_more er, List.flatMap_append, List.flatMap_cons, List.flatMap_nil, List.append_nil, List.map_append, List.map_replicate]
    · rintro σ H' ⟨s', rw, o6, c, rfl, hc, hch, hrw, nrw⟩
      walk_at "ev"
      rw [List.length_map, hlt, List.take_length] at hc
      have u : ∀ {l : List Rn} {lo c d : Int}, Cov f lo l c → Cov f lo l d → c = d := by
        intro l
        induction l with
        | nil => intro lo c d h h'; exact (show lo = c from h).symm.trans h'
        | cons x l ih => intro lo c d h h'; exact ih h.2.2.2 h'.2.2.2
      rw [u hc hW] at hrw
      exact q _ _ (s1.trans s') (.inr (.inl ⟨e, rw, rfl, hrw⟩)) (by intro r z; cases z; exact nrw)
  rename_i hnl
  have hw2 : (w = "least" ∨ w = "place") ∧ lo < hi := by
    rcases hw with z | ⟨z, _⟩ | z
    · exact absurd z hnt
    · exact absurd z hnl
    · exact z
  cases W with
  | nil =>
    have : lo = hi := hW
    omega
  | cons r0 W' =>
  have hts : ∃ t0 ts', ts = t0 :: ts' := by
    cases ts with
    | nil => cases hlt
    | cons t0 ts' => exact ⟨t0, ts', rfl⟩
  obtain ⟨t0, ts', rfl⟩ := hts
  have ht0 := hT1.all 0 t0 r0 rfl rfl
  refine ixL_ap (j := 0) (SqL.of hp1) rfl ?_
  walk_at "ev"
  refine lst_ap (SqL.of hp1) (fun k σ H' => H' = H1 ∧ ∃ (tb : Addr) (o6 : Option V), σ = [some (.ref p), some (.str w), some (.int lo), some (.int hi), some (.ref sm), none, o6, some (.ref tb)] ∧ RunAt H1 tb (best r0 ((r0 :: W').take k))) ⟨rfl, t0, _, rfl, ht0⟩ (fun k σ H' _ h => by rw [h.1]; exact SqL.of hp1) ?_ ?_
  · rintro k x σ H' hx ⟨rfl, tb, o6, rfl, htb⟩
    rw [List.getElem?_map] at hx
    cases et : (t0 :: ts')[k]? with
    | none => rw [et] at hx; cases hx
    | some t =>
      rw [et] at hx
      cases hx
      obtain ⟨r, er, ht⟩ := hT1.get et
      walk_at "ev"
      refine ixT_ap (j := 2) (SqT.of ht) rfl ?_
      refine ixT_ap (j := 2) (SqT.of htb) rfl ?_
      walk_at "ev"
      have eb := best_snoc r ((r0 :: W').take k) r0
      rw [← take_more er] at eb
      split
      · rename_i hv
        exact ⟨trivial, t, _, rfl, by rw [eb, if_pos hv]; exact ht⟩
      · rename_i hv
        exact ⟨trivial, tb, _, rfl, by rw [eb, if_neg hv]; exact htb⟩
  · rintro σ H' ⟨rfl, tb, o6, rfl, htb⟩
    rw [List.length_map, hlt, List.take_length] at htb
    obtain ⟨g1, g2, g3, g4⟩ := hW
    have hst0 := hstr r0 List.mem_cons_self
    have e0 : best r0 (r0 :: W') = best r0 W' := by show best (if r0.v < r0.v then r0 else r0) W' = _; rw [if_neg (Int.lt_irrefl _)]
    rw [e0] at htb
    obtain ⟨hpl, hfv⟩ := best_place (lo := lo) g4 (fun x hx => hstr x (List.mem_cons_of_mem _ hx)) (by omega) (show r0.a < r0.b from hst0) (g3 _ (Int.le_refl _) hst0) (fun i i0 i1 => by rw [g3 i (by omega) i1]; exact Int.le_refl _) (fun i i0 i1 => by omega)
    walk_at "ev"
    simp only [rEqS_ap]
    walk_at "ev"
    split
    · rename_i e
      refine ixT_ap (j := 2) (SqT.of htb) rfl ?_
      exact q _ _ s1 (.inr (.inr (.inl ⟨e, _, hpl, by rw [hfv]⟩))) (by intro r z; cases z)
    · rename_i e
      refine ixT_ap (j := 0) (SqT.of htb) rfl ?_
      rcases hw2.1 with z | z
      · exact absurd z e
      · exact q _ _ s1 (.inr (.inr (.inr ⟨z, _, hpl, rfl⟩))) (by intro r z; cases z)
def sp_l_first11 : Sp := fun vs H Q _ => ∃ (p : Addr) (rs : List Rn) (f : Int → Int) (lo b m : Int), vs = [.ref p, .int lo, .int b] ∧ RunsAt H p rs ∧ Cov f 0 rs m ∧ (Str1 rs ∨ m = 0) ∧ 0 ≤ lo ∧ lo ≤ m ∧ ∀ r, FirstF f lo m b r → Q (optV r) H
theorem p_l_first11 (vs : List V) (H : Hp) (Q : VK) (E : XK) (h : sp_l_first11 vs H Q E) : t_l_first11 K E { nx := fun _ H' => Q .non H', rt := Q } (start ["_law_runs", "_law_low", "_law_bound", "_law_run"] vs) H := by
  obtain ⟨p, rs, f, lo, b, m, rfl, ⟨ts, hp, hT⟩, hC, hstr, h0, h1, q⟩ := h
  show t_l_first11 K E _ [some (.ref p), some (.int lo), some (.int b), none] H
  have hlt := hT.len
  unfold t_l_first11
  walk_at "ev"
  refine lst_ap (SqL.of hp) (fun k σ H' => H' = H ∧ ∃ (o : Option V) (c : Int), σ = [some (.ref p), some (.int lo), some (.int b), o] ∧ Cov f 0 (rs.take k) c ∧ ∀ i, lo ≤ i → i < c → b < f i) ⟨rfl, _, 0, rfl, rfl, fun i i0 i1 => by omega⟩ (fun k σ H' _ h => by rw [h.1]; exact SqL.of hp) ?_ ?_
  · rintro k x σ H' hx ⟨rfl, o, c, rfl, hc, hb⟩
    rw [List.getElem?_map] at hx
    cases et : ts[k]? with
    | none => rw [et] at hx; cases hx
    | some t =>
      rw [et] at hx
      cases hx
      obtain ⟨r, er, ht⟩ := hT.get et
      obtain ⟨c', m', a1, b1, b2, b3, b4, b5⟩ : ∃ c' m', Cov f 0 (rs.take k) c' ∧ r.a = c' ∧ r.a ≤ r.b ∧ (∀ i, r.a ≤ i → i < r.b → f i = r.v) ∧ m' = m ∧ r.b ≤ m := by
        have e1 : rs = rs.take k ++ rs.drop k := (List.take_append_drop k rs).symm
        rw [e1] at hC
        obtain ⟨c', a1, a2⟩ := Cov.app.mp hC
        have ek : rs.drop k = r :: rs.drop (k + 1) := by
          have hk := (List.getElem?_eq_some_iff.mp er).1
          rw [List.drop_eq_getElem_cons hk]
          congr 1
          exact (List.getElem?_eq_some_iff.mp er).2
        rw [ek] at a2
        obtain ⟨b1, b2, b3, b4⟩ := a2
        exact ⟨c', m, a1, b1, b2, b3, rfl, b4.le⟩
      have u : ∀ {l : List Rn} {lo c d : Int}, Cov f lo l c → Cov f lo l d → c = d := by
        intro l
        induction l with
        | nil => intro lo c d h h'; exact (show lo = c from h).symm.trans h'
        | cons x l ih => intro lo c d h h'; exact ih h.2.2.2 h'.2.2.2
      have ec : r.a = c := b1.trans (u hc a1).symm
      have hcov : Cov f 0 (rs.take (k + 1)) r.b := by
        rw [take_more er]
        exact Cov.app.mpr ⟨c, hc, ec, b2, b3, rfl⟩
      walk_at "ev"
      refine ixT_ap (j := 1) (SqT.of ht) rfl ?_
      walk_at "ev"
      split
      · rename_i g1
        refine ixT_ap (j := 2) (SqT.of ht) rfl ?_
        walk_at "ev"
        split
        · rename_i g2
          refine ixT_ap (j := 0) (SqT.of ht) rfl ?_
          walk_at "ev"
          have g3 : r.a < r.b := by
            rcases hstr with z | z
            · exact z r (List.mem_of_getElem? er)
            · omega
          refine q (some (max r.a lo)) ⟨by omega, by omega, ?_, fun i i0 i1 => hb i i0 (by omega)⟩
          rw [b3 _ (by omega) (by omega)]
          exact g2
        · rename_i g2
          refine ⟨trivial, _, r.b, rfl, hcov, fun i i0 i1 => ?_⟩
          by_cases z : i < c
          · exact hb i i0 z
          · rw [b3 i (by omega) i1]
            omega
      · rename_i g1
        exact ⟨trivial, _, r.b, rfl, hcov, fun i i0 i1 => by omega⟩
  · rintro σ H' ⟨rfl, o, c, rfl, hc, hb⟩
    rw [List.length_map, hlt, List.take_length] at hc
    have u : ∀ {l : List Rn} {lo c d : Int}, Cov f lo l c → Cov f lo l d → c = d := by
      intro l
      induction l with
      | nil => intro lo c d h h'; exact (show lo = c from h).symm.trans h'
      | cons x l ih => intro lo c d h h'; exact ih h.2.2.2 h'.2.2.2
    walk_at "ev"
    exact q none fun i i0 i1 => hb i i0 (by rw [u hc hC]; exact i1)
end
end RB
namespace RB
open PySem PySem.Spec PyProof.Rows L2 LamX NdefX
local macro_rules | `(tactic| walk_at "ev") => `(tactic| try simp only [tSeq, tIfS, tTest, tNot, tAnd, tOr, tB, tOp, tUn, tVar, tC, tRet, tAsg, gName, tNext, tCB, tCons, tNil, tDrop, tRaise, tChain, tChain3, tAndV, tOrV, tNotV, tIf, tCall, tFld_ap, tLc_ap, tLcR_ap, tFor_ap, tForR_ap, tForR2_ap, nTry, nTryAs, tCallS, tKnown, tBM, gSub, tSl, tNoPart, tPart, tLst, tTup, wipe,
  List.getElem?_cons_zero, List.getElem?_cons_succ, List.set_cons_zero, List.set_cons_succ, ex_some, ex_bl, ex_int, List.nil_append, List.cons_append, List.append_nil,
  nAdd_ap, nSub_ap, nLt_ap, nLe_ap, nGt_ap, nGe_ap, nMul_ap, nMulW_ap, nDiv_ap, nMod_ap, nPow_ap, nNeg_ap, nMax_ap, nMin_ap, rEq_ap, rNe_ap, nIs_ap, nIsNot_ap, dec_int_non, dec_ref_non, dec_non_non, ref_non, int_non, non_ref, non_int, isi_int_int, isi_int_bool,
  decide_eq_true_eq, Bool.not_eq_true', decide_eq_false_iff_not, decide_true, decide_false, Bool.not_true, Bool.not_false, ite_tt', ite_ff', Bool.false_eq_true, Bool.true_eq_false, not_true_eq_false, not_false_eq_true, if_true, if_false])
def nForR3 (i : Nat) (tb : TS) (vs : List V) (D : Ends) (σ : L2.St) (H : Hp) : Prop := tFor (iRng3 fun _ H Q => Q vs H) (gName i) tb D σ H
theorem tForR3_ap {ta : TA} {i : Nat} {tb : TS} {D : Ends} {σ : L2.St} {H : Hp} : tFor (iRng3 ta) (gName i) tb D σ H = ta σ H fun vs H1 => nForR3 i tb vs D σ H1 := rfl
theorem rng3_ap {i : Nat} {tb : TS} {D : Ends} {σ : L2.St} {H : Hp} {lo hi c : Int} {n : Nat} (hR : RgC lo hi c n) (Pv : Nat → L2.St → Hp → Prop) (h0 : Pv 0 σ H)
    (hs : ∀ k σ' H', k < n → Pv k σ' H' → tb { D with nx := Pv (k + 1), ct := Pv (k + 1), bk := D.nx } (σ'.set i (some (.int (lo + (k : Nat) * c)))) H') (hd : ∀ σ' H', Pv n σ' H' → D.nx σ' H') : nForR3 i tb [.int lo, .int hi, .int c] D σ H :=
  ⟨lo, hi, c, n, rfl, hR, for_rangeC (lo := lo) (c := c) (n := n) Pv h0 hs hd⟩
theorem rg32 : ∀ L : Fin 65, 0 ≤ Builtin.Range.rangeSize 3 ((L.val : Int) - 1) 2 ∧ Builtin.Range.small 3 ((L.val : Int) - 1) 2 = true ∧ Builtin.Range.rangeSize 3 ((L.val : Int) - 1) 2 ≤ 31 ∧ ∀ k : Fin 65, k.val < Builtin.Range.rangeSize 3 ((L.val : Int) - 1) 2 → 3 + 2 * k.val + 1 < L.val := by decide +kernel
theorem rg32_ex {L : Nat} (h : L ≤ 64) : ∃ n, RgC 3 ((L : Int) - 1) 2 n ∧ n ≤ 31 ∧ ∀ k, k < n → 3 + 2 * k + 1 < L := by
  obtain ⟨h0, h1, h2, h3⟩ := rg32 ⟨L, by omega⟩
  dsimp only at h0 h1 h2
  exact ⟨(Builtin.Range.rangeSize 3 ((L : Int) - 1) 2).toNat, ⟨by decide, by decide, h1, by have := h0; omega⟩, by omega, fun k hk => h3 ⟨k, by omega⟩ (by show (k : Int) < Builtin.Range.rangeSize 3 ((L : Int) - 1) 2; omega)⟩
theorem cell_ix {K : PySem.W.Frag} {H : Hp} {Q : VK} {a : Addr} {ns : List Int} {k : Nat} (hS : SqL K H a (ns.map V.int)) (hk : k < ns.length) (q : Q (.int (cell ns k)) H) : rIxL K (.ref a) (.int (k : Nat)) H Q := by
  refine ixL_ap hS ?_ q
  rw [List.getElem?_map]
  unfold cell
  rw [List.getD_eq_getElem?_getD, List.getElem?_eq_getElem hk]
  rfl
theorem mod_nat {c m : Int} (h : 0 < m) : ∃ n : Nat, c % m = (n : Nat) ∧ (n : Int) < m := by
  have d0 := Int.emod_nonneg c (show m ≠ 0 by omega)
  have d1 := Int.emod_lt_of_pos c h
  exact ⟨(c % m).toNat, by omega, by omega⟩
theorem run_ix {K : PySem.W.Frag} {H : Hp} {Q : VK} {p : Addr} {rs : List Rn} {i : Nat} (hR : RunsAt H p rs) (hi : i < rs.length) (q : ∀ t r, rs[i]? = some r → RunAt H t r → Q (.ref t) H) : rIxL K (.ref p) (.int (i : Nat)) H Q := by
  obtain ⟨ts, hp, hT⟩ := hR
  have hl := hT.len
  obtain ⟨t, et⟩ : ∃ t, ts[i]? = some t := ⟨_, List.getElem?_eq_getElem (h := by omega) ..⟩
  obtain ⟨r, er, ht⟩ := hT.get et
  exact ixL_ap (SqL.of hp) (by rw [List.getElem?_map, et]; rfl) (q t r er ht)
theorem runs_len {K : PySem.W.Frag} {H : Hp} {Q : VK} {p : Addr} {rs : List Rn} (hR : RunsAt H p rs) (q : Q (.int rs.length) H) : nLen K [.ref p] H Q := by
  obtain ⟨ts, hp, hT⟩ := hR
  refine nLen_ap (SqL.of hp) ?_
  rw [List.length_map, hT.len]
  exact q
theorem cut_none' {f : Int → Int} {c : Int} : ∀ {rs : List Rn} {lo m : Int}, Cov f lo rs m → c ≤ lo → cutL c rs = rs
  | [], _, _, _, _ => rfl
  | r :: l, lo, m, h, hc => by
    obtain ⟨h1, h2, h3, h4⟩ := h
    show cut1 c r ++ cutL c l = r :: l
    unfold cut1
    rw [if_neg (by omega), cut_none' h4 (by omega)]
    rfl
theorem cut_len1 {f : Int → Int} {c : Int} : ∀ {rs : List Rn} {lo m : Int}, Cov f lo rs m → (cutL c rs).length ≤ rs.length + 1
  | [], _, _, _ => by simp [cutL]
  | r :: l, lo, m, h => by
    obtain ⟨h1, h2, h3, h4⟩ := h
    show (cut1 c r ++ cutL c l).length ≤ _
    by_cases hc : r.a < c ∧ c < r.b
    · rw [cut_none' h4 (by omega)]
      unfold cut1
      rw [if_pos hc]
      simp
    · unfold cut1
      rw [if_neg hc]
      have := cut_len1 (c := c) h4
      simp only [List.length_append, List.length_cons, List.length_nil]
      omega
theorem chg_len1 {op : Int → Int} {c d : Int} : ∀ rs : List Rn, (rs.flatMap (chg1 op c d)).length = rs.length
  | [] => rfl
  | r :: l => by
    rw [List.flatMap_cons, List.length_append, chg_len1 l, List.length_cons]
    unfold chg1
    split <;> simp <;> omega
theorem chg_len {f : Int → Int} {op : Int → Int} {c d lo m : Int} {rs : List Rn} (h : Cov f lo rs m) : (chgL op c d rs).length ≤ rs.length + 2 := by
  unfold chgL
  split
  · omega
  · rw [chg_len1]
    have := cut_len1 (c := c) h
    have := cut_len1 (c := d) (h.cut (c := c))
    omega
theorem cut_ne {c : Int} {rs : List Rn} (h : 0 < rs.length) : 0 < (cutL c rs).length := by
  cases rs with
  | nil => cases h
  | cons r l =>
    show 0 < (cut1 c r ++ cutL c l).length
    unfold cut1
    split <;> simp
theorem chg_ne {op : Int → Int} {c d : Int} {rs : List Rn} (h : 0 < rs.length) : 0 < (chgL op c d rs).length := by
  unfold chgL
  split
  · exact h
  · rw [chg_len1]
    exact cut_ne (cut_ne h)
structure Rr (f : Int → Int) (rs : List Rn) (m : Int) : Prop where
  cov : Cov f 0 rs m
  str : Str1 rs ∨ m = 0
  ne : 0 < rs.length
theorem Rr.chg {f : Int → Int} {rs : List Rn} {m : Int} (R : Rr f rs m) {op : Int → Int} {c d : Int} (hcd : c ≤ d) : Rr (updR op c d f) (chgL op c d rs) m := ⟨R.cov.chg hcd, R.str.imp (fun z => z.chg) id, chg_ne R.ne⟩
theorem Rr.one {m v : Int} (h : 0 ≤ m) : Rr (fun _ => v) [⟨0, m, v⟩] m := ⟨⟨rfl, h, fun _ _ _ => rfl, rfl⟩, by
  by_cases z : m = 0
  · exact .inr z
  · exact .inl fun r hr => by
      obtain rfl := List.mem_singleton.mp hr
      show (0 : Int) < m
      omega, by simp⟩
theorem op_add_eq (z : Int) : (fun v => opAdd z v 0) = opOf "add" z := by
  unfold opOf
  rw [if_neg (by decide +kernel)]
  rfl
theorem op_fill_eq (z : Int) : (fun v => opFill z v 0) = opOf "fill" z := by
  unfold opOf
  rw [if_pos rfl]
  funext v
  exact Int.sub_zero z
theorem due_alike {f : Int → Int} {w : Str} {lo hi : Int} {v u : V} {H H' : Hp} (hv : DueIs f w lo hi v H) (s : Same H H') (hu : DueIs f w lo hi u H') (hz : w = "list" → hi - lo ≤ 100000) : Alike H' v u := by
  have d1 : ¬ (("total" : Str) = "list") := by decide +kernel
  have d2 : ¬ (("total" : Str) = "least") := by decide +kernel
  have d3 : ¬ (("total" : Str) = "place") := by decide +kernel
  have d4 : ¬ (("list" : Str) = "least") := by decide +kernel
  have d5 : ¬ (("list" : Str) = "place") := by decide +kernel
  have d6 : ¬ (("least" : Str) = "place") := by decide +kernel
  rcases hv with ⟨rfl, rfl⟩ | ⟨rfl, p, rfl, hp⟩ | ⟨rfl, a, ha, rfl⟩ | ⟨rfl, a, ha, rfl⟩ <;> rcases hu with ⟨e', rfl⟩ | ⟨e', p', rfl, hp'⟩ | ⟨e', a', ha', rfl⟩ | ⟨e', a', ha', rfl⟩
  · exact .int _
  · exact absurd e' d1
  · exact absurd e' d2
  · exact absurd e' d3
  · exact absurd e'.symm d1
  · exact .lst (s _ _ hp) hp' (by rw [seg_length]; have := hz rfl; omega)
  · exact absurd e' d4
  · exact absurd e' d5
  · exact absurd e'.symm d2
  · exact absurd e'.symm d4
  · rw [place_uniq ha ha']
    exact .int _
  · exact absurd e' d6
  · exact absurd e'.symm d3
  · exact absurd e'.symm d5
  · exact absurd e'.symm d6
  · rw [place_uniq ha ha']
    exact .int _
end RB
namespace RB
open PySem PySem.Spec PyProof.Rows L2 LamX NdefX
local macro_rules | `(tactic| walk_at "ev") => `(tactic| try simp only [tSeq, tIfS, tTest, tNot, tAnd, tOr, tB, tOp, tUn, tVar, tC, tRet, tAsg, gName, tNext, tCB, tCons, tNil, tDrop, tRaise, tChain, tChain3, tAndV, tOrV, tNotV, tIf, tCall, tFld_ap, tLc_ap, tLcR_ap, tFor_ap, tForR_ap, tForR2_ap, nTry, nTryAs, tCallS, tKnown, tBM, gSub, tSl, tNoPart, tPart, tLst, tTup, wipe,
  List.getElem?_cons_zero, List.getElem?_cons_succ, List.set_cons_zero, List.set_cons_succ, ex_some, ex_bl, ex_int, List.nil_append, List.cons_append, List.append_nil,
  nAdd_ap, nSub_ap, nLt_ap, nLe_ap, nGt_ap, nGe_ap, nMul_ap, nMulW_ap, nDiv_ap, nMod_ap, nPow_ap, nNeg_ap, nMax_ap, nMin_ap, rEq_ap, rNe_ap, nIs_ap, nIsNot_ap, dec_int_non, dec_ref_non, dec_non_non, ref_non, int_non, non_ref, non_int, isi_int_int, isi_int_bool,
  decide_eq_true_eq, Bool.not_eq_true', decide_eq_false_iff_not, decide_true, decide_false, Bool.not_true, Bool.not_false, ite_tt', ite_ff', Bool.false_eq_true, Bool.true_eq_false, not_true_eq_false, not_false_eq_true, if_true, if_false])
inductive Dd where
  | chg (w : Str) (lo hi z : Int)
  | ask (w : Str) (lo hi : Int)
  | first (lo b : Int)
  | back
def Dd.ok : Dd → Prop
  | .chg w _ _ _ => w = "add" ∨ w = "fill"
  | .ask w _ _ => w = "total" ∨ w = "least" ∨ w = "place" ∨ w = "list"
  | _ => True
def Dd.vs : Dd → List V
  | .chg w lo hi z => [.str w, .int lo, .int hi, .int z]
  | .ask w lo hi => [.str w, .int lo, .int hi]
  | .first lo b => [.str "first", .int lo, .int b]
  | .back => [.str "back"]
def DdAt (H : Hp) (t : Addr) (d : Dd) : Prop := H t = some (.tup d.vs) ∧ d.ok
def InR (m lo hi : Int) : Prop := 0 ≤ lo ∧ lo ≤ hi ∧ hi ≤ m
instance (m lo hi : Int) : Decidable (InR m lo hi) := by unfold InR; infer_instance
abbrev Rw := Int → Int
def stepD (m : Int) : Dd → List Rw → List Rw
  | .chg w lo hi z, f :: S => if InR m lo hi then updR (opOf w z) lo hi f :: f :: S else f :: S
  | .back, f :: g :: S => g :: S
  | _, S => S
def refD (m : Int) (S : List Rw) : Dd → Nat
  | .chg _ lo hi _ => if InR m lo hi then 0 else 1
  | .back => if 2 ≤ S.length then 0 else 2
  | .first lo _ => if 0 ≤ lo ∧ lo ≤ m then 0 else 1
  | .ask w lo hi => if InR m lo hi then (if w = "list" ∧ 1000 < hi - lo then 3 else if lo = hi ∧ (w = "least" ∨ w = "place") then 2 else 0) else 1
theorem refD_chg {m : Int} {S : List Rw} {w : Str} {lo hi z : Int} : refD m S (.chg w lo hi z) = if InR m lo hi then 0 else 1 := rfl
theorem refD_back {m : Int} {S : List Rw} : refD m S .back = if 2 ≤ S.length then 0 else 2 := rfl
theorem refD_first {m : Int} {S : List Rw} {lo b : Int} : refD m S (.first lo b) = if 0 ≤ lo ∧ lo ≤ m then 0 else 1 := rfl
theorem refD_ask {m : Int} {S : List Rw} {w : Str} {lo hi : Int} : refD m S (.ask w lo hi) = if InR m lo hi then (if w = "list" ∧ 1000 < hi - lo then 3 else if lo = hi ∧ (w = "least" ∨ w = "place") then 2 else 0) else 1 := rfl
theorem step_chg {m : Int} {S : List Rw} {f : Rw} {w : Str} {lo hi z : Int} : stepD m (.chg w lo hi z) (f :: S) = if InR m lo hi then updR (opOf w z) lo hi f :: f :: S else f :: S := rfl
theorem step_back {m : Int} {S : List Rw} {f g : Rw} : stepD m .back (f :: g :: S) = g :: S := rfl
def topF (S : List Rw) : Rw := S.headD fun _ => 0
def AnsF (m : Int) (S : List Rw) (v : V) (H : Hp) : Dd → Prop
  | .first lo b => ∃ r, FirstF (topF S) lo m b r ∧ v = optV r
  | .ask w lo hi => DueIs (topF S) w lo hi v H
  | _ => v = .non
def AnsD (m : Int) (S : List Rw) (d : Dd) (v : V) (H : Hp) : Prop := (refD m S d = 0 ∧ AnsF m S v H d) ∨ (refD m S d = 1 ∧ v = .str "out of row") ∨ (refD m S d = 2 ∧ v = .str "nothing") ∨ (refD m S d = 3 ∧ v = .str "too many")
theorem step_ne {m : Int} {d : Dd} {S : List Rw} (h : S ≠ []) : stepD m d S ≠ [] := by
  cases S with
  | nil => exact absurd rfl h
  | cons f S =>
    cases d with
    | chg w lo hi z =>
      rw [step_chg]
      split <;> simp
    | back => cases S <;> simp [stepD]
    | _ => simp [stepD]
theorem step_len {m : Int} {d : Dd} {S : List Rw} : (stepD m d S).length ≤ S.length + 1 := by
  cases S with
  | nil => cases d <;> simp [stepD]
  | cons f S =>
    cases d with
    | chg w lo hi z =>
      rw [step_chg]
      split <;> simp
    | back => cases S <;> simp [stepD]
    | _ => simp [stepD]
def BkL (C : Addr) (H : Hp) (m : Int) : List Addr → List Rw → Prop
  | p :: ps, f :: S => Bk C H p m f ∧ BkL C H m ps S
  | [], [] => True
  | _, _ => False
theorem BkL.ins {C : Addr} {H H' : Hp} {m : Int} (i : Ins H H') : ∀ {ps S}, BkL C H m ps S → BkL C H' m ps S
  | [], [], _ => trivial
  | _ :: _, _ :: _, h => ⟨h.1.ins i, h.2.ins i⟩
  | [], _ :: _, h => h.elim
  | _ :: _, [], h => h.elim
theorem BkL.len {C : Addr} {H : Hp} {m : Int} : ∀ {ps S}, BkL C H m ps S → ps.length = S.length
  | [], [], _ => rfl
  | _ :: _, _ :: _, h => by rw [List.length_cons, List.length_cons, h.2.len]
  | [], _ :: _, h => h.elim
  | _ :: _, [], h => h.elim
def BksAt (C : Addr) (H : Hp) (bp : Addr) (m : Int) (S : List Rw) : Prop := ∃ ps : List Addr, H bp = some (.lst (ps.map V.ref).reverse) ∧ BkL C H m ps S
section
variable {K : PySem.W.Frag} {C CO CT CZ CN : Addr} {T : List (Addr × Str)}
def sp_told (C CO CT CZ : Addr) : Sp := fun vs H Q E => ∃ (p t : Addr) (m : Int) (f : Rw) (S : List Rw) (d : Dd), vs = [.ref p, .ref t] ∧ Bk C H p m f ∧ DdAt H t d ∧ (∀ w lo hi z, d ≠ .chg w lo hi z) ∧ d ≠ .back ∧
  (refD m (f :: S) d = 0 → ∀ v H', Same H H' → AnsF m (f :: S) v H' d → (∀ r, v = .ref r → H r = none) → Q v H') ∧ (refD m (f :: S) d = 1 → E (.ref CO) none H) ∧ (refD m (f :: S) d = 2 → E (.ref CZ) none H) ∧ (refD m (f :: S) d = 3 → E (.ref CT) none H)
theorem p_told (vs : List V) (H : Hp) (Q : VK) (E : XK) (h : sp_told C CO CT CZ vs H Q E) :
    t_told K (sp_listed C CO CT 41) (sp_first C CO 41) (sp_place C CO CZ 41) (sp_least C CO CZ 41) (sp_total C CO 41) E { nx := fun _ H' => Q .non H', rt := Q } (start ["book", "deed", "low", "high", "bound"] vs) H := by
  obtain ⟨p, t, m, f, S, d, rfl, hB, ⟨hd, ok⟩, n1, n2, q0, q1, q2, q3⟩ := h
  show t_told K (sp_listed C CO CT 41) (sp_first C CO 41) (sp_place C CO CZ 41) (sp_least C CO CZ 41) (sp_total C CO 41) E _ [some (.ref p), some (.ref t), none, none, none] H
  unfold t_told
  have sT := SqT.of (K := K) hd
  have nl : ∀ {x : V} {i : Int}, x = .int i → ∀ r, x = .ref r → H r = none := fun e r z => by rw [e] at z; cases z
  have a1 : ¬ (("least" : Str) = "total") := by decide +kernel
  have a2 : ¬ (("place" : Str) = "total") := by decide +kernel
  have a3 : ¬ (("place" : Str) = "least") := by decide +kernel
  have a4 : ¬ (("first" : Str) = "total") := by decide +kernel
  have a5 : ¬ (("first" : Str) = "least") := by decide +kernel
  have a6 : ¬ (("first" : Str) = "place") := by decide +kernel
  have a7 : ¬ (("list" : Str) = "total") := by decide +kernel
  have a8 : ¬ (("list" : Str) = "least") := by decide +kernel
  have a9 : ¬ (("list" : Str) = "place") := by decide +kernel
  have a10 : ¬ (("list" : Str) = "first") := by decide +kernel
  have b1 : ¬ (("total" : Str) = "list") := by decide +kernel
  have b2 : ¬ (("least" : Str) = "list") := by decide +kernel
  have b3 : ¬ (("place" : Str) = "list") := by decide +kernel
  have b4 : ¬ (("total" : Str) = "least") := by decide +kernel
  have b5 : ¬ (("total" : Str) = "place") := by decide +kernel
  cases d with
  | chg w lo hi z => exact absurd rfl (n1 _ _ _ _)
  | back => exact absurd rfl n2
  | first lo b =>
    refine ⟨.ref t, rfl, ?_⟩
    refine ⟨t, "first", [.int lo, .int b], rfl, sT, ?_⟩
    rw [if_neg (fun z => a4 z.2)]
    refine ⟨t, "first", [.int lo, .int b], rfl, sT, ?_⟩
    rw [if_neg (fun z => a5 z.2)]
    refine ⟨t, "first", [.int lo, .int b], rfl, sT, ?_⟩
    rw [if_neg (fun z => a6 z.2)]
    refine ⟨t, "first", [.int lo, .int b], rfl, sT, ?_⟩
    rw [if_pos ⟨rfl, rfl⟩]
    simp only [setAll]
    walk_at "ev"
    by_cases hc : 0 ≤ lo ∧ lo ≤ m
    · refine bk_first hB hc.1 hc.2 fun r hr => ?_
      exact q0 (by rw [refD_first, if_pos hc]) _ _ (.refl H) ⟨r, hr, rfl⟩ (by intro r' z; cases r <;> cases z)
    · exact bk_first_out hB hc (q1 (by rw [refD_first, if_neg hc]))
  | ask w lo hi =>
    have sT : SqT K H t [.str w, .int lo, .int hi] := sT
    have out : ¬ InR m lo hi → refD m (f :: S) (.ask w lo hi) = 1 := fun z => by rw [refD_ask, if_neg z]
    refine ⟨.ref t, rfl, ?_⟩
    refine ⟨t, w, [.int lo, .int hi], rfl, sT, ?_⟩
    rcases ok with rfl | rfl | rfl | rfl
    · rw [if_pos ⟨rfl, rfl⟩]
      simp only [setAll]
      walk_at "ev"
      by_cases hc : InR m lo hi
      · refine bk_total hB hc.1 hc.2.1 hc.2.2 ?_
        exact q0 (by rw [refD_ask, if_pos hc, if_neg (fun z => b1 z.1), if_neg (fun z => z.2.elim b4 b5)]) _ _ (.refl H) (.inl ⟨rfl, rfl⟩) (nl rfl)
      · exact bk_total_out hB hc (q1 (out hc))
    · rw [if_neg (fun z => a1 z.2)]
      refine ⟨t, "least", [.int lo, .int hi], rfl, sT, ?_⟩
      rw [if_pos ⟨rfl, rfl⟩]
      simp only [setAll]
      walk_at "ev"
      by_cases hc : InR m lo hi
      · by_cases he : lo = hi
        · subst he
          exact bk_least_no hB hc.1 hc.2.2 (q2 (by rw [refD_ask, if_pos hc, if_neg (fun z => b2 z.1), if_pos ⟨rfl, .inl rfl⟩]))
        · have hlt : lo < hi := by have := hc.2.1; omega
          refine bk_least hB hc.1 hlt hc.2.2 fun H' z s hz => ?_
          obtain ⟨a, ha, _⟩ := place_ex (f := f) hlt
          rw [least_place ha hz]
          exact q0 (by rw [refD_ask, if_pos hc, if_neg (fun z => b2 z.1), if_neg (fun z => he z.1)]) _ _ s (.inr (.inr (.inl ⟨rfl, a, ha, rfl⟩))) (nl rfl)
      · exact bk_least_out hB hc (q1 (out hc))
    · rw [if_neg (fun z => a2 z.2)]
      refine ⟨t, "place", [.int lo, .int hi], rfl, sT, ?_⟩
      rw [if_neg (fun z => a3 z.2)]
      refine ⟨t, "place", [.int lo, .int hi], rfl, sT, ?_⟩
      rw [if_pos ⟨rfl, rfl⟩]
      simp only [setAll]
      walk_at "ev"
      by_cases hc : InR m lo hi
      · by_cases he : lo = hi
        · subst he
          exact bk_place_no hB hc.1 hc.2.2 (q2 (by rw [refD_ask, if_pos hc, if_neg (fun z => b3 z.1), if_pos ⟨rfl, .inr rfl⟩]))
        · have hlt : lo < hi := by have := hc.2.1; omega
          refine bk_place hB hc.1 hlt hc.2.2 fun H' a s ha => ?_
          exact q0 (by rw [refD_ask, if_pos hc, if_neg (fun z => b3 z.1), if_neg (fun z => he z.1)]) _ _ s (.inr (.inr (.inr ⟨rfl, a, ha, rfl⟩))) (nl rfl)
      · exact bk_place_out hB hc (q1 (out hc))
    · rw [if_neg (fun z => a7 z.2)]
      refine ⟨t, "list", [.int lo, .int hi], rfl, sT, ?_⟩
      rw [if_neg (fun z => a8 z.2)]
      refine ⟨t, "list", [.int lo, .int hi], rfl, sT, ?_⟩
      rw [if_neg (fun z => a9 z.2)]
      refine ⟨t, "list", [.int lo, .int hi], rfl, sT, ?_⟩
      rw [if_neg (fun z => a10 z.2)]
      refine ⟨t, "list", [.int lo, .int hi], rfl, sT, ?_⟩
      rw [if_pos ⟨rfl, rfl⟩]
      simp only [setAll]
      walk_at "ev"
      by_cases hc : InR m lo hi
      · by_cases hm : 1000 < hi - lo
        · exact bk_listed_many hB hc.1 hc.2.2 hm (q3 (by rw [refD_ask, if_pos hc, if_pos ⟨rfl, hm⟩]))
        · refine bk_listed hB hc.1 hc.2.1 hc.2.2 (by omega) fun r H' s n e => ?_
          exact q0 (by rw [refD_ask, if_pos hc, if_neg (fun z => hm z.2), if_neg (fun z => z.2.elim a8 a9)]) _ _ s (.inr (.inl ⟨rfl, r, rfl, e⟩)) (by intro r' z; cases z; exact n)
      · exact bk_listed_out hB hc (q1 (out hc))
def sp_go_back (CZ : Addr) : Sp := fun vs H Q E => ∃ (bp : Addr) (xs : List V), vs = [.ref bp] ∧ H bp = some (.lst xs) ∧ xs.length ≤ 1000000 ∧ (xs.length = 1 → E (.ref CZ) none H) ∧ (∀ ys y, xs = ys ++ [y] → xs.length ≠ 1 → Q .non (upd H bp (.lst ys))) ∧ xs ≠ []
theorem p_go_back (vs : List V) (H : Hp) (Q : VK) (E : XK) (h : sp_go_back CZ vs H Q E) : t_go_back K CZ E { nx := fun _ H' => Q .non H', rt := Q } (start ["books"] vs) H := by
  obtain ⟨bp, xs, rfl, hx, hz, q1, q2, ne⟩ := h
  show t_go_back K CZ E _ [some (.ref bp)] H
  unfold t_go_back
  walk_at "ev"
  refine nLen_ap (SqL.of hx) ?_
  walk_at "ev"
  split
  · rename_i e
    exact q1 (by omega)
  · rename_i e
    obtain ⟨ys, y, rfl⟩ : ∃ ys y, xs = ys ++ [y] := ⟨xs.dropLast, xs.getLast ne, (List.dropLast_concat_getLast ne).symm⟩
    simp only [tBM0]
    walk_at "ev"
    exact ⟨ty_lst hx, pop_ap hx (q2 ys y rfl (by omega))⟩
def sp_done (C CO CT CZ : Addr) (T : List (Addr × Str)) : Sp := fun vs H Q E => ∃ (bp t : Addr) (m : Int) (S : List Rw) (d : Dd), vs = [.ref bp, .ref t] ∧ BksAt C H bp m S ∧ S ≠ [] ∧ S.length ≤ 100000 ∧ DdAt H t d ∧ Tabs T H ∧
  (refD m S d = 0 → ∀ v H', KeepS [bp] H H' → Tabs T H' → BksAt C H' bp m (stepD m d S) → AnsF m S v H' d → (∀ r, v = .ref r → H r = none) → Q v H') ∧ (refD m S d = 1 → E (.ref CO) none H) ∧ (refD m S d = 2 → E (.ref CZ) none H) ∧ (refD m S d = 3 → E (.ref CT) none H)
def Nob (H : Hp) (p : Addr) : Prop := ∀ o, H p = some o → ∃ ps, o = .tbl ps
theorem Nob.none {H : Hp} {p : Addr} (h : H p = none) : Nob H p := fun o e => by rw [h] at e; cases e
theorem Nob.back {S : List Addr} {H H' : Hp} {p : Addr} (h : Nob H' p) (k : KeepS S H H') (n : p ∉ S) : Nob H p := fun o e => by
  cases o with
  | tbl ps => exact ⟨ps, rfl⟩
  | _ => obtain ⟨ps, z⟩ := h _ (k _ _ e n (by intro ps z; cases z)); cases z
theorem Nob.ne {H : Hp} {p q : Addr} {xs : List V} (h : Nob H p) (e : H q = some (.lst xs)) : p ≠ q := fun z => by
  obtain ⟨ps, y⟩ := h _ (by rw [z]; exact e)
  cases y
theorem p_done (vs : List V) (H : Hp) (Q : VK) (E : XK) (h : sp_done C CO CT CZ T vs H Q E) :
    t_done K (sp_told C CO CT CZ) (sp_go_back CZ) (sp_deed C CO T opFill) (sp_deed C CO T opAdd) E { nx := fun _ H' => Q .non H', rt := Q } (start ["books", "deed", "low", "high", "by", "number"] vs) H := by
  obtain ⟨bp, t, m, S, d, rfl, ⟨ps, hb, hL⟩, hne, hz, ⟨hd, ok⟩, hT, q0, q1, q2, q3⟩ := h
  show t_done K (sp_told C CO CT CZ) (sp_go_back CZ) (sp_deed C CO T opFill) (sp_deed C CO T opAdd) E _ [some (.ref bp), some (.ref t), none, none, none, none] H
  have sT := SqT.of (K := K) hd
  have hl := hL.len
  obtain ⟨f, S, rfl⟩ : ∃ f S', S = f :: S' := by
    cases S with
    | nil => exact absurd rfl hne
    | cons f S => exact ⟨f, S, rfl⟩
  obtain ⟨p, ps, rfl⟩ : ∃ p ps', ps = p :: ps' := by
    cases ps with
    | nil => cases hl
    | cons p ps => exact ⟨p, ps, rfl⟩
  obtain ⟨hB, hL'⟩ := id hL
  rw [List.map_cons, List.reverse_cons] at hb
  have hz' : (ps.map V.ref).reverse.length ≤ 1000000 := by
    rw [List.length_reverse, List.length_map]
    simp only [List.length_cons] at hl hz
    omega
  have lst : ∀ {Q' : VK}, Q' (.ref p) H → rIxL K (.ref bp) (.int (-1)) H Q' := fun q => ixL_last (SqL.of hb) hz' q
  have a1 : ¬ (("fill" : Str) = "add") := by decide +kernel
  have a2 : ¬ (("first" : Str) = "add") := by decide +kernel
  have a3 : ¬ (("first" : Str) = "fill") := by decide +kernel
  have a4 : ¬ (("back" : Str) = "add") := by decide +kernel
  have a5 : ¬ (("back" : Str) = "fill") := by decide +kernel
  have newB : ∀ {x : Addr} {H2 : Hp} {g : Rw}, ExtN H H2 → Bk C H2 x m g → H2 bp = some (.lst ((ps.map V.ref).reverse ++ [.ref p])) →
      BksAt C (upd H2 bp (.lst (((ps.map V.ref).reverse ++ [.ref p]) ++ [.ref x]))) bp m (g :: f :: S) := fun {x H2 g} e hx hb2 =>
    ⟨x :: p :: ps, by rw [upd_same, List.map_cons, List.map_cons, List.reverse_cons, List.reverse_cons], hx.ins (Ins.lst hb2 _), hL.ins ((Ins.extN e).trans (Ins.lst hb2 _))⟩
  unfold t_done
  cases d with
  | chg w lo hi z =>
    have sT : SqT K H t [.str w, .int lo, .int hi, .int z] := sT
    refine ⟨.ref t, rfl, ?_⟩
    refine ⟨t, w, [.int lo, .int hi, .int z], rfl, sT, ?_⟩
    rcases ok with rfl | rfl
    · rw [if_pos ⟨rfl, rfl⟩]
      simp only [setAll]
      walk_at "ev"
      refine ⟨ty_lst hb, lst ?_⟩
      by_cases hc : InR m lo hi
      · refine bk_deed hB hT hc.1 hc.2.1 hc.2.2 fun x H2 e2 T2 hx => ?_
        have hb2 := ext_lst e2 hb
        refine app_ap hb2 (by rw [List.length_append, List.length_singleton]; omega) ?_
        rw [op_add_eq] at hx
        refine q0 (by rw [refD_chg, if_pos hc]) _ _ ((KeepS.ext e2).trans (.put List.mem_cons_self)) (RB.Tabs.put T2 hb2 _) ?_ rfl (by intro r z; cases z)
        rw [step_chg, if_pos hc]
        exact newB e2 hx hb2
      · exact bk_deed_out hB hT hc (q1 (by rw [refD_chg, if_neg hc]))
    · rw [if_neg (fun z => a1 z.2)]
      refine ⟨t, "fill", [.int lo, .int hi, .int z], rfl, sT, ?_⟩
      rw [if_pos ⟨rfl, rfl⟩]
      simp only [setAll]
      walk_at "ev"
      refine ⟨ty_lst hb, lst ?_⟩
      by_cases hc : InR m lo hi
      · refine bk_deed hB hT hc.1 hc.2.1 hc.2.2 fun x H2 e2 T2 hx => ?_
        have hb2 := ext_lst e2 hb
        refine app_ap hb2 (by rw [List.length_append, List.length_singleton]; omega) ?_
        rw [op_fill_eq] at hx
        refine q0 (by rw [refD_chg, if_pos hc]) _ _ ((KeepS.ext e2).trans (.put List.mem_cons_self)) (RB.Tabs.put T2 hb2 _) ?_ rfl (by intro r z; cases z)
        rw [step_chg, if_pos hc]
        exact newB e2 hx hb2
      · exact bk_deed_out hB hT hc (q1 (by rw [refD_chg, if_neg hc]))
  | back =>
    have sT : SqT K H t [.str "back"] := sT
    refine ⟨.ref t, rfl, ?_⟩
    refine ⟨t, "back", [], rfl, sT, ?_⟩
    rw [if_neg (fun z => a4 z.2)]
    refine ⟨t, "back", [], rfl, sT, ?_⟩
    rw [if_neg (fun z => a5 z.2)]
    refine ⟨t, "back", [], rfl, sT, ?_⟩
    rw [if_pos ⟨rfl, rfl⟩]
    simp only [setAll]
    walk_at "ev"
    have hlen : ((ps.map V.ref).reverse ++ [V.ref p]).length = S.length + 1 := by
      rw [List.length_append, List.length_reverse, List.length_map, List.length_singleton]
      simpa using hl
    simp only [List.length_cons] at hz
    refine ⟨bp, _, rfl, hb, by rw [hlen]; omega, fun e => ?_, fun ys y e ne => ?_, by simp⟩
    · exact q2 (by rw [refD_back, if_neg (by simp only [List.length_cons]; omega)])
    · have hy : ys = (ps.map V.ref).reverse := (List.append_inj_left' e rfl).symm
      subst hy
      refine q0 (by rw [refD_back, if_pos (by simp only [List.length_cons]; omega)]) _ _ (.put List.mem_cons_self) (RB.Tabs.put hT hb _) ?_ rfl (by intro r z; cases z)
      obtain ⟨g, S, rfl⟩ : ∃ g S', S = g :: S' := by
        cases S with
        | nil => exact absurd hlen ne
        | cons g S => exact ⟨g, S, rfl⟩
      rw [step_back]
      exact ⟨ps, upd_same, hL'.ins (Ins.lst hb _)⟩
  | first lo b =>
    have sT : SqT K H t [.str "first", .int lo, .int b] := sT
    refine ⟨.ref t, rfl, ?_⟩
    refine ⟨t, "first", [.int lo, .int b], rfl, sT, ?_⟩
    rw [if_neg (by intro z; have y := z.1; simp at y)]
    refine ⟨t, "first", [.int lo, .int b], rfl, sT, ?_⟩
    rw [if_neg (by intro z; have y := z.1; simp at y)]
    refine ⟨t, "first", [.int lo, .int b], rfl, sT, ?_⟩
    rw [if_neg (by intro z; have y := z.1; simp at y)]
    simp only [tcWild]
    walk_at "ev"
    refine lst ⟨p, t, m, f, S, .first lo b, rfl, hB, ⟨hd, ok⟩, (by intro _ _ _ _ z; cases z), (by intro z; cases z), fun r0 v H' s hA hv => ?_, q1, q2, q3⟩
    exact q0 r0 v H' (.same s) (hT.ext s) ⟨p :: ps, by rw [List.map_cons, List.reverse_cons]; exact s _ _ hb, hL.ins (.same s)⟩ hA hv
  | ask w lo hi =>
    have sT : SqT K H t [.str w, .int lo, .int hi] := sT
    refine ⟨.ref t, rfl, ?_⟩
    refine ⟨t, w, [.int lo, .int hi], rfl, sT, ?_⟩
    rw [if_neg (by intro z; have y := z.1; simp at y)]
    refine ⟨t, w, [.int lo, .int hi], rfl, sT, ?_⟩
    rw [if_neg (by intro z; have y := z.1; simp at y)]
    refine ⟨t, w, [.int lo, .int hi], rfl, sT, ?_⟩
    rw [if_neg (by intro z; have y := z.1; simp at y)]
    simp only [tcWild]
    walk_at "ev"
    refine lst ⟨p, t, m, f, S, .ask w lo hi, rfl, hB, ⟨hd, ok⟩, (by intro _ _ _ _ z; cases z), (by intro z; cases z), fun r0 v H' s hA hv => ?_, q1, q2, q3⟩
    exact q0 r0 v H' (.same s) (hT.ext s) ⟨p :: ps, by rw [List.map_cons, List.reverse_cons]; exact s _ _ hb, hL.ins (.same s)⟩ hA hv
def sp_answer (C : Addr) (T : List (Addr × Str)) : Sp := fun vs H Q E => ∃ (bp t : Addr) (m : Int) (S : List Rw) (d : Dd), vs = [.ref bp, .ref t] ∧ BksAt C H bp m S ∧ S ≠ [] ∧ S.length ≤ 100000 ∧ DdAt H t d ∧ Tabs T H ∧
  ∀ v H', KeepS [bp] H H' → Tabs T H' → BksAt C H' bp m (stepD m d S) → AnsD m S d v H' → (∀ r, v = .ref r → H r = none) → Q v H'
theorem step_ref {m : Int} {S : List Rw} {d : Dd} (hne : S ≠ []) (h : refD m S d ≠ 0) : stepD m d S = S := by
  cases S with
  | nil => exact absurd rfl hne
  | cons f S =>
    cases d with
    | chg w lo hi z =>
      rw [refD_chg] at h
      rw [step_chg]
      by_cases hc : InR m lo hi
      · rw [if_pos hc] at h
        exact absurd rfl h
      · rw [if_neg hc]
    | back =>
      cases S with
      | nil => rfl
      | cons g S =>
        rw [refD_back, if_pos (by simp)] at h
        exact absurd rfl h
    | _ => rfl
theorem p_answer (v1 : PySem.W.exmOne K (.ref CO) (.ref CO) = some true) (v2 : PySem.W.exmOne K (.ref CZ) (.ref CO) = some false) (v3 : PySem.W.exmOne K (.ref CZ) (.ref CZ) = some true) (v4 : PySem.W.exmOne K (.ref CT) (.ref CO) = some false) (v5 : PySem.W.exmOne K (.ref CT) (.ref CZ) = some false) (v6 : PySem.W.exmOne K (.ref CT) (.ref CT) = some true)
    (vs : List V) (H : Hp) (Q : VK) (E : XK) (h : sp_answer C T vs H Q E) : t_answer K CO CZ CT (sp_done C CO CT CZ T) E { nx := fun _ H' => Q .non H', rt := Q } (start ["books", "deed"] vs) H := by
  obtain ⟨bp, t, m, S, d, rfl, hb, hne, hz, hd, hT, q⟩ := h
  show t_answer K CO CZ CT (sp_done C CO CT CZ T) E _ [some (.ref bp), some (.ref t)] H
  unfold t_answer
  simp only [nTry3]
  walk_at "ev"
  have nr : ∀ {s : Str} (r : Addr), V.str s = .ref r → H r = none := fun r z => by cases z
  refine ⟨bp, t, m, S, d, rfl, hb, hne, hz, hd, hT, fun r0 v H' k T' b' hA hv => q v H' k T' b' (.inl ⟨r0, hA⟩) hv, fun r1 => ?_, fun r2 => ?_, fun r3 => ?_⟩
  · refine ⟨true, v1, fun _ a ha => ?_, fun z => by cases z⟩
    exact q _ _ .refl hT (by rw [step_ref hne (by rw [r1]; decide)]; exact hb) (.inr (.inl ⟨r1, rfl⟩)) nr
  · refine ⟨false, v2, (by intro z; cases z), fun _ => ⟨true, v3, fun _ a ha => ?_, fun z => by cases z⟩⟩
    exact q _ _ .refl hT (by rw [step_ref hne (by rw [r2]; decide)]; exact hb) (.inr (.inr (.inl ⟨r2, rfl⟩))) nr
  · refine ⟨false, v4, (by intro z; cases z), fun _ => ⟨false, v5, (by intro z; cases z), fun _ => ⟨true, v6, fun _ a ha => ?_, fun z => by cases z⟩⟩⟩
    exact q _ _ .refl hT (by rw [step_ref hne (by rw [r3]; decide)]; exact hb) (.inr (.inr (.inr ⟨r3, rfl⟩))) nr
def stk (m : Int) (S : List Rw) (ds : List Dd) : List Rw := ds.foldl (fun S d => stepD m d S) S
theorem stk_snoc {m : Int} {S : List Rw} {ds : List Dd} {d : Dd} : stk m S (ds ++ [d]) = stepD m d (stk m S ds) := by
  unfold stk
  rw [List.foldl_append]
  rfl
theorem stk_ne {m : Int} : ∀ {ds : List Dd} {S : List Rw}, S ≠ [] → stk m S ds ≠ []
  | [], _, h => h
  | _ :: ds, _, h => stk_ne (ds := ds) (step_ne h)
theorem stk_len {m : Int} : ∀ {ds : List Dd} {S : List Rw}, (stk m S ds).length ≤ S.length + ds.length
  | [], _ => Nat.le_refl _
  | d :: ds, S => by
    have h := stk_len (m := m) (ds := ds) (S := stepD m d S)
    have h2 := step_len (m := m) (d := d) (S := S)
    rw [List.length_cons]
    show (stk m (stepD m d S) ds).length ≤ _
    omega
def DdsAt (H : Hp) (ts : List Addr) (ds : List Dd) : Prop := ts.length = ds.length ∧ ∀ (k : Nat) t d, ts[k]? = some t → ds[k]? = some d → DdAt H t d
def AnsAll (m : Int) (S : List Rw) (ds : List Dd) (vals : List V) (H : Hp) : Prop := vals.length = ds.length ∧ ∀ (k : Nat) d v, ds[k]? = some d → vals[k]? = some v → AnsD m (stk m S (ds.take k)) d v H
def VNew (H : Hp) (vals : List V) : Prop := (∀ (j : Nat) p, vals[j]? = some (V.ref p) → Nob H p) ∧ ∀ (i j : Nat) p, vals[i]? = some (V.ref p) → vals[j]? = some (V.ref p) → i = j
theorem ansD_ref {m : Int} {S : List Rw} {d : Dd} {p : Addr} {H : Hp} (h : AnsD m S d (.ref p) H) : ∃ w lo hi, d = .ask w lo hi ∧ refD m S d = 0 ∧ w = "list" ∧ H p = some (.lst ((seg (topF S) lo (hi - lo).toNat).map V.int)) := by
  rcases h with ⟨e, h⟩ | ⟨_, h⟩ | ⟨_, h⟩ | ⟨_, h⟩
  · cases d with
    | first lo b =>
      obtain ⟨r, _, z⟩ := h
      cases r <;> cases z
    | ask w lo hi =>
      rcases h with ⟨_, z⟩ | ⟨y, q, z, hq⟩ | ⟨_, a, _, z⟩ | ⟨_, a, _, z⟩
      · cases z
      · cases z
        exact ⟨w, lo, hi, rfl, e, y, hq⟩
      · cases z
      · cases z
    | _ => cases h
  all_goals cases h
theorem AnsD.keep {m : Int} {S : List Rw} {d : Dd} {v : V} {H H' : Hp} {Z : List Addr} (h : AnsD m S d v H) (k : KeepS Z H H') (n : ∀ p, v = .ref p → p ∉ Z) : AnsD m S d v H' := by
  rcases h with ⟨e, h⟩ | h | h | h
  · refine .inl ⟨e, ?_⟩
    cases d with
    | ask w lo hi =>
      rcases h with h | ⟨y, q, z, hq⟩ | h | h
      · exact .inl h
      · exact .inr (.inl ⟨y, q, z, k _ _ hq (n q z) (by intro ps z; cases z)⟩)
      · exact .inr (.inr (.inl h))
      · exact .inr (.inr (.inr h))
    | _ => exact h
  · exact .inr (.inl h)
  · exact .inr (.inr (.inl h))
  · exact .inr (.inr (.inr h))
theorem snoc_get {α : Type} {xs : List α} {y z : α} {k : Nat} (h : (xs ++ [y])[k]? = some z) : (k < xs.length ∧ xs[k]? = some z) ∨ (k = xs.length ∧ z = y) := by
  by_cases e : k < xs.length
  · rw [List.getElem?_append_left e] at h
    exact .inl ⟨e, h⟩
  · rw [List.getElem?_append_right (by omega)] at h
    obtain ⟨h1, h2⟩ := List.getElem?_eq_some_iff.mp h
    simp only [List.length_singleton] at h1
    have e0 : k - xs.length = 0 := by omega
    simp only [e0, List.getElem_cons_zero] at h2
    exact .inr ⟨by omega, h2.symm⟩
theorem AnsAll.snoc {m : Int} {S : List Rw} {ds : List Dd} {vals : List V} {H : Hp} {d : Dd} {v : V} (h : AnsAll m S ds vals H) (a : AnsD m (stk m S ds) d v H) : AnsAll m S (ds ++ [d]) (vals ++ [v]) H := by
  refine ⟨by rw [List.length_append, List.length_append, h.1]; rfl, fun k d' v' hd hv => ?_⟩
  rcases snoc_get hd with ⟨k1, hd⟩ | ⟨k1, rfl⟩
  · rcases snoc_get hv with ⟨_, hv⟩ | ⟨k2, _⟩
    · rw [List.take_append_of_le_length (by omega)]
      exact h.2 k d' v' hd hv
    · have := h.1
      omega
  · rcases snoc_get hv with ⟨k2, hv⟩ | ⟨_, rfl⟩
    · have := h.1
      omega
    · rw [k1, List.take_left]
      exact a
theorem AnsAll.keep {m : Int} {S : List Rw} {ds : List Dd} {vals : List V} {H H' : Hp} {Z : List Addr} (h : AnsAll m S ds vals H) (k : KeepS Z H H') (n : ∀ (j : Nat) p, vals[j]? = some (.ref p) → p ∉ Z) : AnsAll m S ds vals H' :=
  ⟨h.1, fun j d v hd hv => (h.2 j d v hd hv).keep k fun p e => n j p (by rw [hv, e])⟩
theorem AnsAll.ref {m : Int} {S : List Rw} {ds : List Dd} {vals : List V} {H : Hp} (h : AnsAll m S ds vals H) {j : Nat} {p : Addr} (e : vals[j]? = some (.ref p)) : ∃ xs : List Int, H p = some (.lst (xs.map V.int)) ∧ xs.length ≤ 1000 := by
  obtain ⟨hj, _⟩ := List.getElem?_eq_some_iff.mp e
  have hj' : j < ds.length := by rw [← h.1]; exact hj
  have hd : ds[j]? = some ds[j] := List.getElem?_eq_getElem hj'
  obtain ⟨w, lo, hi, e1, r0, rfl, hp⟩ := ansD_ref (h.2 j _ _ hd e)
  refine ⟨_, hp, ?_⟩
  rw [e1, refD_ask] at r0
  rw [seg_length]
  by_cases hc : InR m lo hi
  · rw [if_pos hc] at r0
    by_cases h1 : 1000 < hi - lo
    · rw [if_pos ⟨rfl, h1⟩] at r0
      cases r0
    · omega
  · rw [if_neg hc] at r0
    cases r0
theorem VNew.snoc {H H' : Hp} {vals : List V} {v : V} (h : VNew H vals) (hn : ∀ p, v = .ref p → Nob H p ∧ Nob H' p) (hl : ∀ (j : Nat) p, vals[j]? = some (.ref p) → ∃ xs, H' p = some (.lst xs)) : VNew H (vals ++ [v]) := by
  refine ⟨fun j p e => ?_, fun i j p e1 e2 => ?_⟩
  · rcases snoc_get e with ⟨_, e⟩ | ⟨_, e⟩
    · exact h.1 j p e
    · exact (hn p e.symm).1
  · rcases snoc_get e1 with ⟨i1, e1⟩ | ⟨i1, e1⟩ <;> rcases snoc_get e2 with ⟨j1, e2⟩ | ⟨j1, e2⟩
    · exact h.2 i j p e1 e2
    · obtain ⟨xs, z⟩ := hl i p e1
      exact absurd rfl ((hn p e2.symm).2.ne z)
    · obtain ⟨xs, z⟩ := hl j p e2
      exact absurd rfl ((hn p e1.symm).2.ne z)
    · omega
def sp_answers (C : Addr) (T : List (Addr × Str)) : Sp := fun vs H Q E => ∃ (b dl : Addr) (m : Int) (f : Rw) (ts : List Addr) (ds : List Dd), vs = [.ref b, .ref dl] ∧ Bk C H b m f ∧ H dl = some (.lst (ts.map V.ref)) ∧ DdsAt H ts ds ∧ ds.length ≤ 1000 ∧ Tabs T H ∧
  ∀ (fp : Addr) (H' : Hp) (vals : List V), ExtN H H' → Tabs T H' → H fp = none → H' fp = some (.lst vals) → AnsAll m [f] ds vals H' → VNew H vals → (∀ (j : Nat) p, vals[j]? = some (.ref p) → p ≠ fp) → Q (.ref fp) H'
theorem p_answers (vs : List V) (H : Hp) (Q : VK) (E : XK) (h : sp_answers C T vs H Q E) : t_answers K (sp_answer C T) E { nx := fun _ H' => Q .non H', rt := Q } (start ["book", "deeds", "books", "found", "deed"] vs) H := by
  obtain ⟨b, dl, m, f, ts, ds, rfl, hB, hd, ⟨hl, hD⟩, hz, hT, q⟩ := h
  show t_answers K (sp_answer C T) E _ [some (.ref b), some (.ref dl), none, none, none] H
  unfold t_answers
  walk_at "ev"
  refine ⟨by show 1 ≤ sizeLine; decide, fun bp n1 => ?_⟩
  have s1 := same_new n1 (.lst [V.ref b])
  refine ⟨by show 0 ≤ sizeLine; decide, fun fp n2 => ?_⟩
  have s2 := same_new n2 (.lst [])
  have sA := s1.trans s2
  have nbf : bp ≠ fp := fun z => by rw [← z, upd_same] at n2; cases n2
  have hbp : (upd (upd H bp (.lst [V.ref b])) fp (.lst [])) bp = some (.lst [.ref b]) := s2 _ _ upd_same
  have hfp : (upd (upd H bp (.lst [V.ref b])) fp (.lst [])) fp = some (.lst []) := upd_same
  have hd2 := sA _ _ hd
  have tabs2 : Tabs T (upd (upd H bp (.lst [V.ref b])) fp (.lst [])) := hT.ext sA
  have B2 := hB.same sA
  have D2 : ∀ (k : Nat) t d, ts[k]? = some t → ds[k]? = some d → DdAt (upd (upd H bp (.lst [V.ref b])) fp (.lst [])) t d := fun k t d a c => ⟨sA _ _ (hD k t d a c).1, (hD k t d a c).2⟩
  have nf : H fp = none := s1.free n2
  have nb : H bp = none := n1
  have nd1 : dl ≠ bp := fun z => by rw [z, nb] at hd; cases hd
  have nd2 : dl ≠ fp := fun z => by rw [z, nf] at hd; cases hd
  have nt : ∀ (k : Nat) t d, ts[k]? = some t → ds[k]? = some d → t ≠ bp ∧ t ≠ fp := fun k t d a c => ⟨fun z => (by have := (hD k t d a c).1; rw [z, nb] at this; cases this), fun z => (by have := (hD k t d a c).1; rw [z, nf] at this; cases this)⟩
  generalize (upd (upd H bp (.lst [V.ref b])) fp (.lst [])) = H2 at sA hbp hfp hd2 tabs2 B2 D2
  have memB : bp ∈ [bp, fp] := List.mem_cons_self
  have memF : fp ∈ [bp, fp] := List.mem_cons_of_mem _ List.mem_cons_self
  have notS : ∀ {x : Addr}, x ≠ bp → x ≠ fp → x ∉ [bp, fp] := fun {x} a c z => by
    rcases List.mem_cons.mp z with z | z
    · exact a z
    · exact c (List.mem_singleton.mp z)
  have keepB : ∀ {H3 H4 : Hp}, KeepS [bp] H3 H4 → KeepS [bp, fp] H3 H4 := fun {H3 H4} k x o e n t => k x o e (fun z => n (by rw [List.mem_singleton.mp z]; exact memB)) t
  refine lst_ap (SqL.of hd2) (fun k σ H' => ∃ (o : Option V) (vals : List V), σ = [some (.ref b), some (.ref dl), some (.ref bp), some (.ref fp), o] ∧ KeepS [bp, fp] H2 H' ∧ Tabs T H' ∧ H' fp = some (.lst vals) ∧ BksAt C H' bp m (stk m [f] (ds.take k)) ∧ AnsAll m [f] (ds.take k) vals H' ∧ VNew H2 vals) ?_ ?_ ?_ ?_
  · exact ⟨_, [], rfl, .refl, tabs2, hfp, ⟨[b], hbp, B2, trivial⟩, ⟨rfl, fun k d v e _ => (by cases k <;> cases e)⟩, ⟨fun j p e => (by cases e), fun i j p e _ => (by cases e)⟩⟩
  · rintro k σ H' _ ⟨o, vals, rfl, kp, _⟩
    exact kp.seq (notS nd1 nd2) (SqL.of hd2)
  · rintro k x σ H' hx ⟨o, vals, rfl, kp, T', hf', hb', hA, hV⟩
    rw [List.getElem?_map] at hx
    cases et : ts[k]? with
    | none => rw [et] at hx; cases hx
    | some t =>
    rw [et] at hx
    cases hx
    obtain ⟨hk, _⟩ := List.getElem?_eq_some_iff.mp et
    have ed : ds[k]? = some ds[k] := List.getElem?_eq_getElem (by omega)
    have hkd : k < ds.length := by omega
    generalize ds[k] = d at ed
    have tk : ds.take (k + 1) = ds.take k ++ [d] := take_more ed
    obtain ⟨n3, n4⟩ := nt k t d et ed
    have dt : DdAt H' t d := ⟨kp _ _ (D2 k t d et ed).1 (notS n3 n4) (by intro ps z; cases z), (D2 k t d et ed).2⟩
    have hvl := hA.1
    rw [List.length_take] at hvl
    walk_at "ev"
    refine ⟨ty_lst hf', ?_⟩
    have sl := stk_len (m := m) (ds := ds.take k) (S := [f])
    rw [List.length_take, List.length_singleton] at sl
    refine ⟨bp, t, m, _, d, rfl, hb', stk_ne (by simp), by omega, dt, T', fun v H3 k3 T3 b3 a3 v3 => ?_⟩
    have hf3 : H3 fp = some (.lst vals) := k3 _ _ hf' (fun z => nbf (List.mem_singleton.mp z).symm) (by intro ps z; cases z)
    refine app_ap hf3 (by omega) ?_
    have hpF : ∀ p, v = .ref p → p ≠ fp := fun p e z => by have := v3 p e; rw [z, hf'] at this; cases this
    obtain ⟨pb, hpb, _⟩ := hb'
    have hpB : ∀ p, v = .ref p → p ≠ bp := fun p e z => by have := v3 p e; rw [z, hpb] at this; cases this
    have k4 : KeepS [bp, fp] H' (upd H3 fp (.lst (vals ++ [v]))) := (keepB k3).trans (.put memF)
    have old : ∀ (j : Nat) p, vals[j]? = some (.ref p) → p ∉ [bp, fp] := fun j p e => by
      have := hV.1 j p e
      exact notS (this.ne hbp) (this.ne hfp)
    have lsts : ∀ (j : Nat) p, vals[j]? = some (.ref p) → ∃ xs, H' p = some (.lst xs) := fun j p e => by
      obtain ⟨xs, z, _⟩ := hA.ref e
      exact ⟨_, z⟩
    refine ⟨_, vals ++ [v], rfl, kp.trans k4, RB.Tabs.put T3 hf3 _, upd_same, ?_, ?_, ?_⟩
    · rw [tk, stk_snoc]
      obtain ⟨ps3, e3, l3⟩ := b3
      exact ⟨ps3, by rw [upd_ne nbf]; exact e3, l3.ins (Ins.lst hf3 _)⟩
    · rw [tk]
      exact (hA.keep k4 old).snoc (a3.keep (Z := [fp]) (.put List.mem_cons_self) fun p e z => hpF p e (List.mem_singleton.mp z))
    · exact hV.snoc (H' := H') (fun p e => ⟨(Nob.none (v3 p e)).back kp (notS (hpB p e) (hpF p e)), .none (v3 p e)⟩) lsts
  · rintro σ H' ⟨o, vals, rfl, kp, T', hf', hb', hA, hV⟩
    rw [List.length_map, hl, List.take_length] at hA
    walk_at "ev"
    refine q fp H' vals (fun x o e t => kp x o (sA _ _ e) (notS (fun z => by rw [z, nb] at e; cases e) (fun z => by rw [z, nf] at e; cases e)) t) T' nf hf' hA ⟨fun j p e => ?_, hV.2⟩ fun j p e => (hV.1 j p e).ne hfp
    exact (hV.1 j p e).back (S := []) (.same sA) (by simp)
end
end RB
namespace RB
open PySem PySem.Spec PyProof.Rows L2 LamX NdefX
local macro_rules | `(tactic| walk_at "ev") => `(tactic| try simp only [tSeq, tIfS, tTest, tNot, tAnd, tOr, tB, tOp, tUn, tVar, tC, tRet, tAsg, gName, tNext, tCB, tCons, tNil, tDrop, tRaise, tChain, tChain3, tAndV, tOrV, tNotV, tIf, tCall, tFld_ap, tLc_ap, tLcR_ap, tFor_ap, tForR_ap, tForR2_ap, nTry, nTryAs, tCallS, tKnown, tBM, gSub, tSl, tNoPart, tPart, tLst, tTup, wipe,
  List.getElem?_cons_zero, List.getElem?_cons_succ, List.set_cons_zero, List.set_cons_succ, ex_some, ex_bl, ex_int, List.nil_append, List.cons_append, List.append_nil,
  nAdd_ap, nSub_ap, nLt_ap, nLe_ap, nGt_ap, nGe_ap, nMul_ap, nMulW_ap, nDiv_ap, nMod_ap, nPow_ap, nNeg_ap, nMax_ap, nMin_ap, rEq_ap, rNe_ap, nIs_ap, nIsNot_ap, dec_int_non, dec_ref_non, dec_non_non, ref_non, int_non, non_ref, non_int, isi_int_int, isi_int_bool,
  decide_eq_true_eq, Bool.not_eq_true', decide_eq_false_iff_not, decide_true, decide_false, Bool.not_true, Bool.not_false, ite_tt', ite_ff', Bool.false_eq_true, Bool.true_eq_false, not_true_eq_false, not_false_eq_true, if_true, if_false])
section
variable {K : PySem.W.Frag} {C CO CT CZ CN : Addr} {T : List (Addr × Str)}
def sp_l_end_by14 : Sp := fun vs H Q _ => ∃ (c : Int) (p : Addr) (rs : List Rn) (m : Int), vs = [.int c, .ref p, .int m] ∧ RunsAt H p rs ∧ 0 < rs.length ∧ 0 ≤ m ∧ ∀ z, Q (.int z) H
theorem p_l_end_by14 (vs : List V) (H : Hp) (Q : VK) (E : XK) (h : sp_l_end_by14 vs H Q E) : t_l_end_by14 K E { nx := fun _ H' => Q .non H', rt := Q } (start ["_law_cell", "_law_runs", "_law_many", "_law_at"] vs) H := by
  obtain ⟨c, p, rs, m, rfl, hR, hl, hm, q⟩ := h
  show t_l_end_by14 K E _ [some (.int c), some (.ref p), some (.int m), none] H
  obtain ⟨j, ej, hj⟩ := mod_nat (c := c / 4) (show (0 : Int) < (rs.length : Int) by omega)
  unfold t_l_end_by14
  walk_at "ev"
  refine ⟨⟨by decide, by decide⟩, .inr ⟨by decide, by decide⟩, by omega, by decide, ?_⟩
  have tail : ∀ z : Int, (0 : Int) < 36 ∧ (if c % 36 = 3 then CDiv c 36 ∧ (0 : Int) < 3 ∧ (0 : Int) < 36 ∧ (if c % 36 = 7 then CDiv c 36 ∧ (0 : Int) < 3 ∧ Q (.int (m + 1 + c / 36 % 3)) H else Q (.int (-1 - c / 36 % 3)) H) else (0 : Int) < 36 ∧ (if c % 36 = 7 then CDiv c 36 ∧ (0 : Int) < 3 ∧ Q (.int (m + 1 + c / 36 % 3)) H else Q (.int z) H)) := fun z => by
    refine ⟨by decide, ?_⟩
    split
    · refine ⟨⟨by decide, by decide⟩, by decide, by decide, ?_⟩
      split
      · exact ⟨⟨by decide, by decide⟩, by decide, q _⟩
      · exact q _
    · refine ⟨by decide, ?_⟩
      split
      · exact ⟨⟨by decide, by decide⟩, by decide, q _⟩
      · exact q _
  split
  · refine ⟨⟨by decide, by decide⟩, ?_⟩
    refine runs_len hR ?_
    walk_at "ev"
    refine ⟨by omega, ?_⟩
    rw [ej]
    refine run_ix hR (by omega) fun t r er ht => ?_
    refine ixT_ap (j := 0) (SqT.of ht) rfl ?_
    walk_at "ev"
    refine ⟨⟨by decide, by decide⟩, by decide, by decide, ?_⟩
    split
    · omega
    · exact tail _
  · refine ⟨by decide, ?_⟩
    split
    · refine ⟨⟨by decide, by decide⟩, ?_⟩
      refine runs_len hR ?_
      walk_at "ev"
      refine ⟨by omega, ?_⟩
      rw [ej]
      refine run_ix hR (by omega) fun t r er ht => ?_
      refine ixT_ap (j := 1) (SqT.of ht) rfl ?_
      walk_at "ev"
      exact ⟨⟨by decide, by decide⟩, by decide, tail _⟩
    · exact tail _
def sp_l_answer : Sp := fun vs H Q _ => ∃ (p t : Addr) (rs : List Rn) (m : Int) (f : Rw) (S : List Rw) (d : Dd), vs = [.ref p, .int m, .ref t] ∧ RunsAt H p rs ∧ Rr f rs m ∧ rs.length ≤ 100000 ∧ 0 ≤ m ∧ m ≤ 1000000000000 ∧ DdAt H t d ∧ d ≠ .back ∧
  ∀ v H', Same H H' → AnsD m (f :: S) d v H' → (∀ r, v = .ref r → H r = none) → Q v H'
theorem p_l_answer (vs : List V) (H : Hp) (Q : VK) (E : XK) (h : sp_l_answer vs H Q E) : t_l_answer K sp_l_first11 sp_l_due14 E { nx := fun _ H' => Q .non H', rt := Q } (start ["_law_runs", "_law_many", "_law_deed"] vs) H := by
  obtain ⟨p, t, rs, m, f, S, d, rfl, hR, R, hl, m0, m1, ⟨hd, ok⟩, nb, q⟩ := h
  show t_l_answer K sp_l_first11 sp_l_due14 E _ [some (.ref p), some (.int m), some (.ref t)] H
  have nr : ∀ {s : Str} (r : Addr), V.str s = .ref r → H r = none := fun r z => by cases z
  have a0 : ¬ (("add" : Str) = "first") := by decide +kernel
  have a1 : ¬ (("fill" : Str) = "first") := by decide +kernel
  have a2 : ¬ (("fill" : Str) = "add") := by decide +kernel
  have b1 : ¬ (("total" : Str) = "first") := by decide +kernel
  have b2 : ¬ (("total" : Str) = "add") := by decide +kernel
  have b3 : ¬ (("total" : Str) = "fill") := by decide +kernel
  have b4 : ¬ (("total" : Str) = "list") := by decide +kernel
  have b5 : ¬ (("total" : Str) = "least") := by decide +kernel
  have b6 : ¬ (("total" : Str) = "place") := by decide +kernel
  have c1 : ¬ (("least" : Str) = "first") := by decide +kernel
  have c2 : ¬ (("least" : Str) = "add") := by decide +kernel
  have c3 : ¬ (("least" : Str) = "fill") := by decide +kernel
  have c4 : ¬ (("least" : Str) = "list") := by decide +kernel
  have d1 : ¬ (("place" : Str) = "first") := by decide +kernel
  have d2 : ¬ (("place" : Str) = "add") := by decide +kernel
  have d3 : ¬ (("place" : Str) = "fill") := by decide +kernel
  have d4 : ¬ (("place" : Str) = "list") := by decide +kernel
  have d5 : ¬ (("place" : Str) = "least") := by decide +kernel
  have e1 : ¬ (("list" : Str) = "first") := by decide +kernel
  have e2 : ¬ (("list" : Str) = "add") := by decide +kernel
  have e3 : ¬ (("list" : Str) = "fill") := by decide +kernel
  have e4 : ¬ (("list" : Str) = "least") := by decide +kernel
  have e5 : ¬ (("list" : Str) = "place") := by decide +kernel
  unfold t_l_answer
  cases d with
  | back => exact absurd rfl nb
  | first lo b =>
    have sT : SqT K H t [.str "first", .int lo, .int b] := SqT.of hd
    walk_at "ev"
    refine ixT_ap (j := 0) sT rfl ?_
    simp only [rEqS_ap]
    walk_at "ev"
    refine ixT_ap (j := 1) sT rfl ?_
    walk_at "ev"
    have out : ¬ (0 ≤ lo ∧ lo ≤ m) → Q (.str "out of row") H := fun z => q _ _ (.refl H) (.inr (.inl ⟨by rw [refD_first, if_neg z], rfl⟩)) nr
    split
    · exact out (by omega)
    refine ixT_ap (j := 1) sT rfl ?_
    walk_at "ev"
    split
    · exact out (by omega)
    refine ixT_ap (j := 1) sT rfl ?_
    refine ixT_ap (j := 2) sT rfl ?_
    refine ⟨p, rs, f, lo, b, m, rfl, hR, R.cov, R.str, by omega, by omega, fun r hr => ?_⟩
    exact q _ _ (.refl H) (.inl ⟨by rw [refD_first, if_pos (by omega)], r, hr, rfl⟩) (by intro r' z; cases r <;> cases z)
  | chg w lo hi z =>
    have sT : SqT K H t [.str w, .int lo, .int hi, .int z] := SqT.of hd
    have hw : ¬ (w = "first") := by
      rcases ok with rfl | rfl
      · exact a0
      · exact a1
    walk_at "ev"
    refine ixT_ap (j := 0) sT rfl ?_
    simp only [rEqS_ap]
    walk_at "ev"
    rw [if_neg hw]
    unfold t_l_answer_1
    walk_at "ev"
    refine ixT_ap (j := 1) sT rfl ?_
    walk_at "ev"
    have out : ¬ InR m lo hi → Q (.str "out of row") H := fun z => q _ _ (.refl H) (.inr (.inl ⟨by rw [refD_chg, if_neg z], rfl⟩)) nr
    split
    · exact out (by unfold InR; omega)
    refine ixT_ap (j := 2) sT rfl ?_
    refine ixT_ap (j := 1) sT rfl ?_
    walk_at "ev"
    split
    · exact out (by unfold InR; omega)
    refine ixT_ap (j := 2) sT rfl ?_
    walk_at "ev"
    split
    · exact out (by unfold InR; omega)
    unfold t_l_answer_2
    walk_at "ev"
    have fine : Q .non H := q _ _ (.refl H) (.inl ⟨by rw [refD_chg, if_pos (by unfold InR; omega)], rfl⟩) (by intro r z; cases z)
    refine ixT_ap (j := 0) sT rfl ?_
    simp only [rEqS_ap]
    walk_at "ev"
    rcases ok with rfl | rfl
    · rw [if_pos rfl]
      exact fine
    · rw [if_neg a2]
      refine ixT_ap (j := 0) sT rfl ?_
      simp only [rEqS_ap]
      walk_at "ev"
      exact fine
  | ask w lo hi =>
    have sT : SqT K H t [.str w, .int lo, .int hi] := SqT.of hd
    have hw : ¬ (w = "first") := by
      rcases ok with rfl | rfl | rfl | rfl
      · exact b1
      · exact c1
      · exact d1
      · exact e1
    have hw2 : ¬ (w = "add") := by
      rcases ok with rfl | rfl | rfl | rfl
      · exact b2
      · exact c2
      · exact d2
      · exact e2
    have hw3 : ¬ (w = "fill") := by
      rcases ok with rfl | rfl | rfl | rfl
      · exact b3
      · exact c3
      · exact d3
      · exact e3
    walk_at "ev"
    refine ixT_ap (j := 0) sT rfl ?_
    simp only [rEqS_ap]
    walk_at "ev"
    rw [if_neg hw]
    unfold t_l_answer_1
    walk_at "ev"
    refine ixT_ap (j := 1) sT rfl ?_
    walk_at "ev"
    have out : ¬ InR m lo hi → Q (.str "out of row") H := fun z => q _ _ (.refl H) (.inr (.inl ⟨by rw [refD_ask, if_neg z], rfl⟩)) nr
    split
    · exact out (by unfold InR; omega)
    refine ixT_ap (j := 2) sT rfl ?_
    refine ixT_ap (j := 1) sT rfl ?_
    walk_at "ev"
    split
    · exact out (by unfold InR; omega)
    refine ixT_ap (j := 2) sT rfl ?_
    walk_at "ev"
    split
    · exact out (by unfold InR; omega)
    have hI : InR m lo hi := by unfold InR; omega
    unfold t_l_answer_2
    walk_at "ev"
    refine ixT_ap (j := 0) sT rfl ?_
    simp only [rEqS_ap]
    walk_at "ev"
    rw [if_neg hw2]
    refine ixT_ap (j := 0) sT rfl ?_
    simp only [rEqS_ap]
    walk_at "ev"
    rw [if_neg hw3]
    have due : ¬ (w = "list" ∧ 1000 < hi - lo) → ¬ (lo = hi ∧ (w = "least" ∨ w = "place")) → t_l_answer_5 K sp_l_first11 sp_l_due14 E { nx := fun _ H' => Q .non H', rt := Q } [some (.ref p), some (.int m), some (.ref t)] H := fun y1 y2 => by
      unfold t_l_answer_5
      walk_at "ev"
      refine ixT_ap (j := 0) sT rfl ?_
      refine ixT_ap (j := 1) sT rfl ?_
      refine ixT_ap (j := 2) sT rfl ?_
      refine ⟨p, rs, f, w, lo, hi, m, rfl, hR, R.cov, hl, m1, hI.1, hI.2.1, hI.2.2, ?_, fun v H' s dv hv => q v H' s (.inl ⟨by rw [refD_ask, if_pos hI, if_neg y1, if_neg y2], dv⟩) hv⟩
      have hle := hI.2.1
      rcases ok with rfl | rfl | rfl | rfl
      · exact .inl rfl
      · refine .inr (.inr ⟨.inl rfl, ?_⟩)
        by_cases e : lo = hi
        · exact absurd ⟨e, .inl rfl⟩ y2
        · omega
      · refine .inr (.inr ⟨.inr rfl, ?_⟩)
        by_cases e : lo = hi
        · exact absurd ⟨e, .inr rfl⟩ y2
        · omega
      · refine .inr (.inl ⟨rfl, ?_⟩)
        by_cases e : 1000 < hi - lo
        · exact absurd ⟨rfl, e⟩ y1
        · omega
    have last : ¬ (w = "list" ∧ 1000 < hi - lo) → t_l_answer_4 K sp_l_first11 sp_l_due14 E { nx := fun _ H' => Q .non H', rt := Q } [some (.ref p), some (.int m), some (.ref t)] H := fun y1 => by
      have noth : lo = hi → (w = "least" ∨ w = "place") → Q (.str "nothing") H := fun e y => q _ _ (.refl H) (.inr (.inr (.inl ⟨by rw [refD_ask, if_pos hI, if_neg y1, if_pos ⟨e, y⟩], rfl⟩))) nr
      unfold t_l_answer_4
      walk_at "ev"
      refine ixT_ap (j := 1) sT rfl ?_
      refine ixT_ap (j := 2) sT rfl ?_
      walk_at "ev"
      split
      · rename_i e
        refine ixT_ap (j := 0) sT rfl ?_
        simp only [rEqS_ap]
        walk_at "ev"
        split
        · rename_i e2
          exact noth e (.inl e2)
        · rename_i e2
          refine ixT_ap (j := 0) sT rfl ?_
          simp only [rEqS_ap]
          walk_at "ev"
          split
          · rename_i e3
            exact noth e (.inr e3)
          · rename_i e3
            exact due y1 (fun z => z.2.elim e2 e3)
      · rename_i e
        exact due y1 (fun z => e z.1)
    unfold t_l_answer_3
    walk_at "ev"
    refine ixT_ap (j := 0) sT rfl ?_
    simp only [rEqS_ap]
    walk_at "ev"
    split
    · rename_i el
      refine ixT_ap (j := 2) sT rfl ?_
      refine ixT_ap (j := 1) sT rfl ?_
      walk_at "ev"
      split
      · rename_i e5
        exact q _ _ (.refl H) (.inr (.inr (.inr ⟨by rw [refD_ask, if_pos hI, if_pos ⟨el, by omega⟩], rfl⟩))) nr
      · rename_i e5
        exact last (fun z => e5 (by omega))
    · rename_i el
      exact last (fun z => el z.1)
def sp_l_made : Sp := fun vs H Q _ => ∃ (w : Str) (lo hi z : Int), vs = [.str w, .int lo, .int hi, .int z] ∧ (w = "add" ∨ w = "fill" ∨ w = "total" ∨ w = "least" ∨ w = "place" ∨ w = "list") ∧ ∀ (t : Addr) (d : Dd) (H' : Hp), Same H H' → H t = none → DdAt H' t d → Q (.ref t) H'
theorem p_l_made (vs : List V) (H : Hp) (Q : VK) (E : XK) (h : sp_l_made vs H Q E) : t_l_made E { nx := fun _ H' => Q .non H', rt := Q } (start ["_law_word", "_law_low", "_law_high", "_law_number"] vs) H := by
  obtain ⟨w, lo, hi, z, rfl, hw, q⟩ := h
  show t_l_made E _ [some (.str w), some (.int lo), some (.int hi), some (.int z)] H
  unfold t_l_made
  walk_at "ev"
  simp only [rEqS_ap]
  walk_at "ev"
  have f1 : w = "add" ∨ w = "fill" → [V.str w, .int lo, .int hi, .int z].length ≤ sizeLine ∧ ∀ p, H p = none → Q (.ref p) (upd H p (.tup [.str w, .int lo, .int hi, .int z])) := fun y =>
    ⟨by show 4 ≤ sizeLine; decide, fun t n => q t (.chg w lo hi z) _ (same_new n _) n ⟨upd_same, y⟩⟩
  split
  · rename_i e
    exact f1 (.inl e)
  · rename_i e
    split
    · rename_i e'
      exact f1 (.inr e')
    · rename_i e'
      refine ⟨by show 3 ≤ sizeLine; decide, fun t n => q t (.ask w lo hi) _ (same_new n _) n ⟨upd_same, ?_⟩⟩
      rcases hw with y | y | y | y | y | y
      · exact absurd y e
      · exact absurd y e'
      · exact .inl y
      · exact .inr (.inl y)
      · exact .inr (.inr (.inl y))
      · exact .inr (.inr (.inr y))
def sp_l_run (K : PySem.W.Frag) : Sp := fun vs H Q _ => ∃ (a : Addr) (ns : List Int) (k : Nat), vs = [.ref a, .int (k : Nat)] ∧ SqL K H a (ns.map V.int) ∧ ∀ n : Int, 0 ≤ n → n < 90 → Q (.int n) H
theorem p_l_run (vs : List V) (H : Hp) (Q : VK) (E : XK) (h : sp_l_run K vs H Q E) : t_l_run (sp_l_cell_at K) E { nx := fun _ H' => Q .non H', rt := Q } (start ["_law_script", "_law_k"] vs) H := by
  obtain ⟨a, ns, k, rfl, hS, q⟩ := h
  show t_l_run (sp_l_cell_at K) E _ [some (.ref a), some (.int (k : Nat))] H
  unfold t_l_run
  walk_at "ev"
  refine ⟨a, ns, 0, rfl, hS, ?_⟩
  walk_at "ev"
  refine ⟨⟨by decide, by decide⟩, by decide, ?_⟩
  split
  · refine ⟨a, ns, k, rfl, hS, ?_⟩
    walk_at "ev"
    exact ⟨⟨by decide, by decide⟩, by decide, q _ (by omega) (by omega)⟩
  · exact q 0 (by omega) (by omega)
def sp_l_deed_by : Sp := fun vs H Q _ => ∃ (one two : Int) (p : Addr) (rs : List Rn) (m : Int), vs = [.int one, .int two, .ref p, .int m] ∧ RunsAt H p rs ∧ 0 < rs.length ∧ 0 ≤ m ∧ ∀ (t : Addr) (d : Dd) (H' : Hp), Same H H' → H t = none → DdAt H' t d → Q (.ref t) H'
theorem words_at {n : Nat} (h : n < 9) : ∃ w : Str, ([V.str "add", .str "fill", .str "total", .str "least", .str "place", .str "first", .str "list", .str "back", .str "add"] : List V)[n]? = some (.str w) ∧ (w = "back" ∨ w = "first" ∨ (w = "add" ∨ w = "fill" ∨ w = "total" ∨ w = "least" ∨ w = "place" ∨ w = "list")) := by
  match n, h with
  | 0, _ => exact ⟨_, rfl, .inr (.inr (.inl rfl))⟩
  | 1, _ => exact ⟨_, rfl, .inr (.inr (.inr (.inl rfl)))⟩
  | 2, _ => exact ⟨_, rfl, .inr (.inr (.inr (.inr (.inl rfl))))⟩
  | 3, _ => exact ⟨_, rfl, .inr (.inr (.inr (.inr (.inr (.inl rfl)))))⟩
  | 4, _ => exact ⟨_, rfl, .inr (.inr (.inr (.inr (.inr (.inr (.inl rfl))))))⟩
  | 5, _ => exact ⟨_, rfl, .inr (.inl rfl)⟩
  | 6, _ => exact ⟨_, rfl, .inr (.inr (.inr (.inr (.inr (.inr (.inr rfl))))))⟩
  | 7, _ => exact ⟨_, rfl, .inl rfl⟩
  | 8, _ => exact ⟨_, rfl, .inr (.inr (.inl rfl))⟩
theorem p_l_deed_by (vs : List V) (H : Hp) (Q : VK) (E : XK) (h : sp_l_deed_by vs H Q E) :
    t_l_deed_by K sp_l_end_by14 sp_l_number_by sp_l_made E { nx := fun _ H' => Q .non H', rt := Q } (start ["_law_one", "_law_two", "_law_runs", "_law_many", "_law_words", "_law_word", "_law_low", "_law_number", "_law_high"] vs) H := by
  obtain ⟨one, two, p, rs, m, rfl, hR, hl, m0, q⟩ := h
  show t_l_deed_by K sp_l_end_by14 sp_l_number_by sp_l_made E _ [some (.int one), some (.int two), some (.ref p), some (.int m), none, none, none, none, none] H
  unfold t_l_deed_by
  walk_at "ev"
  refine ⟨by show 9 ≤ sizeLine; decide, fun r0 n0 => ?_⟩
  have s0 := same_new n0 (.lst [V.str "add", .str "fill", .str "total", .str "least", .str "place", .str "first", .str "list", .str "back", .str "add"])
  refine ⟨by decide, ?_⟩
  obtain ⟨j, ej, hj⟩ := mod_nat (c := one) (show (0 : Int) < 9 by decide)
  obtain ⟨w, ew, hw⟩ := words_at (n := j) (by omega)
  rw [ej]
  refine ixL_ap (SqL.of upd_same) ew ?_
  have hR0 := hR.same s0
  have q0 : ∀ (t : Addr) (d : Dd) (H' : Hp), Same (upd H r0 (.lst [V.str "add", .str "fill", .str "total", .str "least", .str "place", .str "first", .str "list", .str "back", .str "add"])) H' → (upd H r0 (.lst [V.str "add", .str "fill", .str "total", .str "least", .str "place", .str "first", .str "list", .str "back", .str "add"])) t = none → DdAt H' t d → Q (.ref t) H' := fun t d H' s n e => q t d H' (s0.trans s) (s0.free n) e
  generalize (upd H r0 (.lst [V.str "add", .str "fill", .str "total", .str "least", .str "place", .str "first", .str "list", .str "back", .str "add"])) = H1 at hR0 q0
  simp only [rEqS_ap]
  walk_at "ev"
  split
  · exact ⟨by show 1 ≤ sizeLine; decide, fun t n => q0 t .back _ (same_new n _) n ⟨upd_same, trivial⟩⟩
  rename_i hb
  refine ⟨⟨by decide, by decide⟩, ?_⟩
  refine ⟨_, p, rs, m, rfl, hR0, hl, m0, fun lo => ?_⟩
  simp only [l_number_by_ap]
  generalize numBy two = z
  walk_at "ev"
  split
  · refine ⟨⟨by decide, by decide⟩, ?_⟩
    refine runs_len hR0 ?_
    walk_at "ev"
    obtain ⟨i, ei, hi⟩ := mod_nat (c := two / 4) (show (0 : Int) < (rs.length : Int) by omega)
    refine ⟨by omega, ?_⟩
    rw [ei]
    refine run_ix hR0 (by omega) fun t r er ht => ?_
    refine ixT_ap (j := 2) (SqT.of ht) rfl ?_
    walk_at "ev"
    refine ⟨by decide, ?_⟩
    refine ⟨by show 2 ≤ sizeLine; decide, fun r1 n1 => ?_⟩
    have s1 := same_new n1 (.lst [V.int z, .int (r.v + two % 3 - 1)])
    refine ⟨⟨by decide, by decide⟩, by decide, ?_⟩
    obtain ⟨k, ek, hk⟩ := mod_nat (c := two / 7) (show (0 : Int) < 2 by decide)
    rw [ek]
    have hu : ∃ u : Int, ([V.int z, .int (r.v + two % 3 - 1)] : List V)[k]? = some (.int u) := by
      match k, (show k < 2 by omega) with
      | 0, _ => exact ⟨_, rfl⟩
      | 1, _ => exact ⟨_, rfl⟩
    obtain ⟨u, hu⟩ := hu
    refine ixL_ap (SqL.of upd_same) hu ?_
    rename_i e1
    rw [e1]
    exact ⟨by show 3 ≤ sizeLine; decide, fun t n => q0 t (.first lo u) _ (s1.trans (same_new n _)) (s1.free n) ⟨upd_same, trivial⟩⟩
  rename_i hf
  have hw6 : w = "add" ∨ w = "fill" ∨ w = "total" ∨ w = "least" ∨ w = "place" ∨ w = "list" := by
    rcases hw with e | e | e
    · exact absurd e hb
    · exact absurd e hf
    · exact e
  refine ⟨⟨by decide, by decide⟩, ?_⟩
  refine ⟨_, p, rs, m, rfl, hR0, hl, m0, fun hi => ?_⟩
  have mk : ∀ l h' : Int, sp_l_made [.str w, .int l, .int h', .int z] H1 Q E := fun l h' => ⟨w, l, h', z, rfl, hw6, q0⟩
  have rest : (0 : Int) < 5 ∧ (if 0 < two % 5 then (if hi < lo then sp_l_made [.str w, .int hi, .int lo, .int z] H1 Q E else sp_l_made [.str w, .int lo, .int hi, .int z] H1 Q E) else sp_l_made [.str w, .int lo, .int hi, .int z] H1 Q E) := by
    refine ⟨by decide, ?_⟩
    split
    · split
      · exact mk _ _
      · exact mk _ _
    · exact mk _ _
  walk_at "ev"
  split
  · refine ⟨by decide, ?_⟩
    split
    · refine ⟨⟨by decide, by decide⟩, by decide, ?_⟩
      exact ⟨by show 3 ≤ sizeLine; decide, fun t n => q0 t (.ask "list" lo _) _ (same_new n _) n ⟨upd_same, .inr (.inr (.inr rfl))⟩⟩
    · exact rest
  · exact rest
def RnL (H : Hp) (m : Int) (L : Nat) : List Addr → List Rw → Prop
  | p :: ps, f :: S => (∃ rs, RunsAt H p rs ∧ Rr f rs m ∧ rs.length ≤ L) ∧ RnL H m L ps S
  | [], [] => True
  | _, _ => False
theorem RunsAt.keepS {Z : List Addr} {H H' : Hp} {p : Addr} {rs : List Rn} (h : RunsAt H p rs) (k : KeepS Z H H') (l : SL Z H) (n : p ∉ Z) : RunsAt H' p rs := by
  obtain ⟨ts, e, r⟩ := h
  exact ⟨ts, k _ _ e n (by intro ps z; cases z), r.keep fun x o e nl nt => k _ _ e (fun z => by obtain ⟨xs, y⟩ := l x z; rw [e] at y; cases y; exact nl _ rfl) nt⟩
theorem RnL.keep {Z : List Addr} {H H' : Hp} {m : Int} {L L' : Nat} (k : KeepS Z H H') (l : SL Z H) (hL : L ≤ L') : ∀ {ps S}, RnL H m L ps S → (∀ p ∈ ps, p ∉ Z) → RnL H' m L' ps S
  | [], [], _, _ => trivial
  | _ :: _, _ :: _, ⟨⟨rs, h1, h2, h3⟩, h⟩, n => ⟨⟨rs, h1.keepS k l (n _ List.mem_cons_self), h2, Nat.le_trans h3 hL⟩, h.keep k l hL fun p hp => n p (List.mem_cons_of_mem _ hp)⟩
  | [], _ :: _, h, _ => h.elim
  | _ :: _, [], h, _ => h.elim
theorem RnL.len {H : Hp} {m : Int} {L : Nat} : ∀ {ps S}, RnL H m L ps S → ps.length = S.length
  | [], [], _ => rfl
  | _ :: _, _ :: _, h => by rw [List.length_cons, List.length_cons, h.2.len]
  | [], _ :: _, h => h.elim
  | _ :: _, [], h => h.elim
theorem DdAt.keep {Z : List Addr} {H H' : Hp} {t : Addr} {d : Dd} (h : DdAt H t d) (k : KeepS Z H H') (l : SL Z H) : DdAt H' t d :=
  ⟨k _ _ h.1 (fun z => by obtain ⟨xs, y⟩ := l t z; rw [h.1] at y; cases y) (by intro ps z; cases z), h.2⟩
theorem DdsAt.keep {Z : List Addr} {H H' : Hp} {ts : List Addr} {ds : List Dd} (h : DdsAt H ts ds) (k : KeepS Z H H') (l : SL Z H) : DdsAt H' ts ds := ⟨h.1, fun i t d a b => (h.2 i t d a b).keep k l⟩
theorem DdsAt.snoc {H : Hp} {ts : List Addr} {ds : List Dd} {t : Addr} {d : Dd} (h : DdsAt H ts ds) (hd : DdAt H t d) : DdsAt H (ts ++ [t]) (ds ++ [d]) := by
  refine ⟨by simp [h.1], fun k t' d' a b => ?_⟩
  have := h.1
  rcases snoc_get a with ⟨k1, a⟩ | ⟨k1, rfl⟩ <;> rcases snoc_get b with ⟨k2, b⟩ | ⟨k2, rfl⟩
  · exact h.2 k t' d' a b
  · omega
  · omega
  · exact hd
structure N14 (H : Hp) (dl ul al : Addr) (m : Int) (f0 : Rw) (L : Nat) (ts : List Addr) (ds : List Dd) (vals : List V) : Prop where
  d : H dl = some (.lst (ts.map V.ref))
  dd : DdsAt H ts ds
  u : H ul = some (.lst vals)
  ua : AnsAll m [f0] ds vals H
  a : ∃ ps : List Addr, H al = some (.lst (ps.map V.ref).reverse) ∧ RnL H m L ps (stk m [f0] ds) ∧ ∀ p ∈ ps, p ∉ [dl, ul, al]
  ne1 : dl ≠ ul
  ne2 : dl ≠ al
  ne3 : ul ≠ al
  vn : ∀ (j : Nat) p, vals[j]? = some (.ref p) → p ∉ [dl, ul, al]
theorem N14.sl {H : Hp} {dl ul al : Addr} {m : Int} {f0 : Rw} {L : Nat} {ts : List Addr} {ds : List Dd} {vals : List V} (N : N14 H dl ul al m f0 L ts ds vals) : SL [dl, ul, al] H := fun p hp => by
  obtain ⟨ps, e, _⟩ := N.a
  rcases List.mem_cons.mp hp with rfl | hp
  · exact ⟨_, N.d⟩
  · rcases List.mem_cons.mp hp with rfl | hp
    · exact ⟨_, N.u⟩
    · rw [List.mem_singleton.mp hp]
      exact ⟨_, e⟩
def sp_l_noted : Sp := fun vs H Q _ => ∃ (t dl ul al : Addr) (m : Int) (f0 : Rw) (L : Nat) (ts : List Addr) (ds : List Dd) (vals : List V) (d : Dd), vs = [.ref t, .ref dl, .ref ul, .ref al, .int m] ∧ N14 H dl ul al m f0 L ts ds vals ∧ DdAt H t d ∧ 0 ≤ m ∧ m ≤ 1000000000000 ∧ L ≤ 10000 ∧ ds.length ≤ 1000 ∧
  ∀ (H' : Hp) (v : V), KeepS [dl, ul, al] H H' → (∀ T, Tabs T H → Tabs T H') → N14 H' dl ul al m f0 (L + 2) (ts ++ [t]) (ds ++ [d]) (vals ++ [v]) → Q .non H'
theorem p_l_noted (vs : List V) (H : Hp) (Q : VK) (E : XK) (h : sp_l_noted vs H Q E) :
    t_l_noted K sp_l_answer sp_l_changed11 E { nx := fun _ H' => Q .non H', rt := Q } (start ["_law_deed", "_law_deeds", "_law_due_here", "_law_ahead", "_law_many"] vs) H := by
  obtain ⟨t, dl, ul, al, m, f0, L, ts, ds, vals, d, rfl, N, hd, m0, m1, hL, hz, q⟩ := h
  show t_l_noted K sp_l_answer sp_l_changed11 E _ [some (.ref t), some (.ref dl), some (.ref ul), some (.ref al), some (.int m)] H
  have l := N.sl
  obtain ⟨hD, hdd, hU, hua, ⟨ps, hA, hRn, hps⟩, ne1, ne2, ne3, vn⟩ := N
  have mD : dl ∈ [dl, ul, al] := List.mem_cons_self
  have mU : ul ∈ [dl, ul, al] := List.mem_cons_of_mem _ List.mem_cons_self
  have mA : al ∈ [dl, ul, al] := List.mem_cons_of_mem _ (List.mem_cons_of_mem _ List.mem_cons_self)
  have notZ : ∀ {x : Addr}, x ≠ dl → x ≠ ul → x ≠ al → x ∉ [dl, ul, al] := fun {x} a b c z => by
    rcases List.mem_cons.mp z with z | z
    · exact a z
    · rcases List.mem_cons.mp z with z | z
      · exact b z
      · exact c (List.mem_singleton.mp z)
  have sl0 := stk_len (m := m) (ds := ds) (S := [f0])
  have sne : stk m [f0] ds ≠ [] := stk_ne (by simp)
  have lts : ts.length = ds.length := hdd.1
  have lvs : vals.length = ds.length := hua.1
  have fin : ∀ (Hf : Hp) (v : V) (ps' : List Addr), KeepS [dl, ul, al] H Hf → (∀ T, Tabs T H → Tabs T Hf) → Hf dl = some (.lst (ts.map V.ref ++ [.ref t])) → Hf ul = some (.lst (vals ++ [v])) → AnsD m (stk m [f0] ds) d v Hf → (∀ p, v = .ref p → p ∉ [dl, ul, al]) →
      Hf al = some (.lst (ps'.map V.ref).reverse) → RnL Hf m (L + 2) ps' (stepD m d (stk m [f0] ds)) → (∀ p ∈ ps', p ∉ [dl, ul, al]) → Q .non Hf := fun Hf v ps' k tb e1 e2 ha hv e3 hr hn => by
    refine q Hf v k tb ⟨by rw [List.map_append]; exact e1, (hdd.keep k l).snoc (hd.keep k l), e2, (hua.keep k vn).snoc ha, ⟨ps', e3, by rw [stk_snoc]; exact hr, hn⟩, ne1, ne2, ne3, fun j p e => ?_⟩
    rcases snoc_get e with ⟨_, e⟩ | ⟨_, e⟩
    · exact vn j p e
    · exact hv p e.symm
  have td : t ≠ dl := fun z => by have := hd.1; rw [z, hD] at this; cases this
  unfold t_l_noted
  walk_at "ev"
  refine ⟨ty_lst hD, ?_⟩
  refine app_ap hD (by rw [List.length_map]; omega) ?_
  have k1 : KeepS [dl, ul, al] H (upd H dl (.lst (ts.map V.ref ++ [.ref t]))) := .put mD
  have l1 := l.put (p := dl) (ys := ts.map V.ref ++ [.ref t])
  have tb1 : ∀ T, Tabs T H → Tabs T (upd H dl (.lst (ts.map V.ref ++ [.ref t]))) := fun T h => RB.Tabs.put h hD _
  have hD1 : upd H dl (.lst (ts.map V.ref ++ [.ref t])) dl = some (.lst (ts.map V.ref ++ [.ref t])) := upd_same
  have hU1 : upd H dl (.lst (ts.map V.ref ++ [.ref t])) ul = some (.lst vals) := by rw [upd_ne ne1.symm]; exact hU
  have hA1 : upd H dl (.lst (ts.map V.ref ++ [.ref t])) al = some (.lst (ps.map V.ref).reverse) := by rw [upd_ne ne2.symm]; exact hA
  have hd1 := hd.keep k1 l
  have hRn1 : RnL (upd H dl (.lst (ts.map V.ref ++ [.ref t]))) m L ps (stk m [f0] ds) := hRn.keep k1 l (Nat.le_refl _) hps
  generalize upd H dl (.lst (ts.map V.ref ++ [.ref t])) = H1 at k1 l1 tb1 hD1 hU1 hA1 hd1 hRn1
  have hlen := hRn1.len
  revert fin hRn1 sl0 sne hlen
  generalize hS : stk m [f0] ds = SS
  intro sl0 sne fin hRn1 hlen
  obtain ⟨f, S, rfl⟩ : ∃ f S', SS = f :: S' := by
    cases SS with
    | nil => exact absurd rfl sne
    | cons f S => exact ⟨f, S, rfl⟩
  obtain ⟨p, ps, rfl⟩ : ∃ p ps', ps = p :: ps' := by
    cases ps with
    | nil => cases hlen
    | cons p ps => exact ⟨p, ps, rfl⟩
  rw [List.map_cons, List.reverse_cons] at hA1
  simp only [List.length_cons, List.length_nil] at hlen sl0
  have hlr : ((ps.map V.ref).reverse ++ [V.ref p]).length = S.length + 1 := by
    rw [List.length_append, List.length_reverse, List.length_map, List.length_singleton]
    omega
  have hz' : (ps.map V.ref).reverse.length ≤ 1000000 := by
    rw [List.length_reverse, List.length_map]
    omega
  obtain ⟨⟨rs, hR, R, hrl⟩, hRnT⟩ := id hRn1
  have pZ : p ∉ [dl, ul, al] := hps p List.mem_cons_self
  have nrn : ∀ p, V.non = .ref p → p ∉ [dl, ul, al] := fun p z => by cases z
  have nrs : ∀ {s : Str} p, V.str s = .ref p → p ∉ [dl, ul, al] := fun p z => by cases z
  have common : d ≠ .back → ∀ (G : V → Hp → Prop), (∀ (v : V) (H3 : Hp), KeepS [dl, ul, al] H H3 → (∀ T, Tabs T H → Tabs T H3) → SL [dl, ul, al] H3 → H3 dl = some (.lst (ts.map V.ref ++ [.ref t])) → H3 ul = some (.lst (vals ++ [v])) → H3 al = some (.lst ((ps.map V.ref).reverse ++ [.ref p])) →
      AnsD m (f :: S) d v H3 → (∀ p, v = .ref p → p ∉ [dl, ul, al]) → KeepS [dl, ul, al] H1 H3 → G v H3) →
      tyV K "list" (V.ref ul) H1 ∧ rIxL K (V.ref al) (.int (-1)) H1 fun x H1 => sp_l_answer [x, V.int m, V.ref t] H1 (fun x H1 => rAppend (V.ref ul) [x] H1 fun x H1 => rIxL K (V.ref ul) (.int (-1)) H1 G) E := fun nb G hG => by
    refine ⟨ty_lst hU1, ixL_last (SqL.of hA1) hz' ?_⟩
    refine ⟨p, t, rs, m, f, S, d, rfl, hR, R, by omega, m0, m1, hd1, nb, fun v H2 s2 ha hv => ?_⟩
    have hU2 := s2 _ _ hU1
    refine app_ap hU2 (by omega) ?_
    have vZ : ∀ r, v = .ref r → r ∉ [dl, ul, al] := fun r e => l1.no (hv r e)
    have k3 : KeepS [dl, ul, al] H1 (upd H2 ul (.lst (vals ++ [v]))) := (KeepS.same s2).trans (.put mU)
    refine ixL_last (SqL.of upd_same) (by omega) ?_
    refine hG v _ (k1.trans k3) (fun T h => RB.Tabs.put ((tb1 T h).ext s2) hU2 _) (l1.same s2).put ?_ upd_same ?_ (ha.keep (Z := [dl, ul, al]) (.put mU) vZ) vZ k3
    · rw [upd_ne ne1]
      exact s2 _ _ hD1
    · rw [upd_ne ne3.symm]
      exact s2 _ _ hA1
  have stay : ∀ (v : V) (H3 : Hp), stepD m d (f :: S) = f :: S → KeepS [dl, ul, al] H H3 → (∀ T, Tabs T H → Tabs T H3) → H3 dl = some (.lst (ts.map V.ref ++ [.ref t])) → H3 ul = some (.lst (vals ++ [v])) → H3 al = some (.lst ((ps.map V.ref).reverse ++ [.ref p])) →
      AnsD m (f :: S) d v H3 → (∀ p, v = .ref p → p ∉ [dl, ul, al]) → KeepS [dl, ul, al] H1 H3 → Q .non H3 := fun v H3 es k tb e1 e2 e3 ha hv k13 => by
    refine fin H3 v (p :: ps) k tb e1 e2 ha hv (by rw [List.map_cons, List.reverse_cons]; exact e3) ?_ hps
    rw [es]
    exact hRn1.keep k13 l1 (by omega) hps
  have b1 : ¬ (("add" : Str) = "back") := by decide +kernel
  have b2 : ¬ (("fill" : Str) = "back") := by decide +kernel
  have b3 : ¬ (("fill" : Str) = "add") := by decide +kernel
  cases d with
  | back =>
    have sT1 : SqT K H1 t [.str "back"] := SqT.of hd1.1
    refine ixT_ap (j := 0) sT1 rfl ?_
    simp only [rEqS_ap, tBM0]
    walk_at "ev"
    refine ⟨ty_lst hU1, by show 2 ≤ sizeLine; decide, fun r n2 => ?_⟩
    have s2 := same_new n2 (.lst [V.str "nothing", V.non])
    have hA2 := s2 _ _ hA1
    have hU2 := s2 _ _ hU1
    have hD2 := s2 _ _ hD1
    have hr2 : upd H1 r (.lst [V.str "nothing", V.non]) r = some (.lst [V.str "nothing", V.non]) := upd_same
    have tb2 : ∀ T, Tabs T H → Tabs T (upd H1 r (.lst [V.str "nothing", V.non])) := fun T h => (tb1 T h).ext s2
    have k2 := k1.trans (KeepS.same s2)
    have l2 := l1.same s2
    have hRn2 : RnL (upd H1 r (.lst [V.str "nothing", V.non])) m L (p :: ps) (f :: S) := hRn1.keep (.same s2) l1 (Nat.le_refl _) hps
    generalize upd H1 r (.lst [V.str "nothing", V.non]) = H2 at s2 hA2 hU2 hD2 hr2 tb2 k2 l2 hRn2
    refine nLen_ap (SqL.of hA2) ?_
    rw [hlr]
    walk_at "ev"
    refine .inr ⟨_, rfl, ?_⟩
    have goOn : ∀ v : V, AnsD m (f :: S) .back v (upd H2 ul (.lst (vals ++ [v]))) → (∀ p, v = .ref p → p ∉ [dl, ul, al]) → rAppend (V.ref ul) [v] H2 fun x H1 => nLen K [V.ref al] H1 fun x H1 => nGt x (V.int 1) H1 fun x H' => ∃ k, x = V.bl k ∧ if k = true then tyV K "list" (V.ref al) H' ∧ rPop (V.ref al) [] H' fun x H1 => Q V.non H1 else Q V.non H' := fun v ha hv => by
      refine app_ap hU2 (by omega) ?_
      have k3 : KeepS [dl, ul, al] H2 (upd H2 ul (.lst (vals ++ [v]))) := .put mU
      have hA3 : upd H2 ul (.lst (vals ++ [v])) al = some (.lst ((ps.map V.ref).reverse ++ [.ref p])) := by rw [upd_ne ne3.symm]; exact hA2
      have hD3 : upd H2 ul (.lst (vals ++ [v])) dl = some (.lst (ts.map V.ref ++ [.ref t])) := by rw [upd_ne ne1]; exact hD2
      refine nLen_ap (SqL.of hA3) ?_
      rw [hlr]
      walk_at "ev"
      by_cases hg : (1 : Int) < ((S.length + 1 : Nat) : Int)
      · rw [if_pos hg]
        refine ⟨ty_lst hA3, pop_ap hA3 ?_⟩
        obtain ⟨g, S, rfl⟩ : ∃ g S', S = g :: S' := by
          cases S with
          | nil => simp at hg
          | cons g S => exact ⟨g, S, rfl⟩
        have k4 : KeepS [dl, ul, al] (upd H2 ul (.lst (vals ++ [v]))) (upd (upd H2 ul (.lst (vals ++ [v]))) al (.lst (ps.map V.ref).reverse)) := .put mA
        refine fin _ v ps ((k2.trans k3).trans k4) (fun T h => RB.Tabs.put (RB.Tabs.put (tb2 T h) hU2 _) hA3 _) ?_ ?_ (ha.keep k4 hv) hv upd_same ?_ (fun x hx => hps x (List.mem_cons_of_mem _ hx))
        · rw [upd_ne ne2]
          exact hD3
        · rw [upd_ne ne3, upd_same]
        · rw [step_back]
          exact hRn2.2.keep (k3.trans k4) l2 (by omega) (fun x hx => hps x (List.mem_cons_of_mem _ hx))
      · rw [if_neg hg]
        refine fin _ v (p :: ps) (k2.trans k3) (fun T h => RB.Tabs.put (tb2 T h) hU2 _) hD3 upd_same ha hv (by rw [List.map_cons, List.reverse_cons]; exact hA3) ?_ hps
        have e : stepD m .back (f :: S) = f :: S := by
          cases S with
          | nil => rfl
          | cons g S => exact absurd (show (1 : Int) < (((g :: S).length + 1 : Nat) : Int) by simp only [List.length_cons]; omega) hg
        rw [e]
        exact hRn2.keep k3 l2 (by omega) hps
    by_cases hg : (1 : Int) < ((S.length + 1 : Nat) : Int)
    · rw [decide_eq_true hg, if_pos rfl]
      refine ixL_ap (j := 1) (SqL.of hr2) rfl ?_
      exact goOn .non (.inl ⟨by rw [refD_back, if_pos (by simp only [List.length_cons]; omega)], rfl⟩) nrn
    · rw [decide_eq_false hg, if_neg (by simp)]
      refine ixL_ap (j := 0) (SqL.of hr2) rfl ?_
      exact goOn (.str "nothing") (.inr (.inr (.inl ⟨by rw [refD_back, if_neg (by simp only [List.length_cons]; omega)], rfl⟩))) nrs
  | chg w lo hi z =>
    have sT1 : SqT K H1 t [.str w, .int lo, .int hi, .int z] := SqT.of hd1.1
    have ok := hd1.2
    refine ixT_ap (j := 0) sT1 rfl ?_
    simp only [rEqS_ap, tBM0]
    walk_at "ev"
    rw [if_neg (by rcases ok with rfl | rfl; exact b1; exact b2)]
    refine common (by intro z; cases z) _ fun v H3 k tb l3 e1 e2 e3 ha hv k13 => ?_
    have sT3 : SqT K H3 t [.str w, .int lo, .int hi, .int z] := SqT.of (hd1.keep k13 l1).1
    have hR3 : RunsAt H3 p rs := hR.keepS k13 l1 pZ
    split
    · rename_i ev
      subst ev
      have hI : InR m lo hi := by
        rcases ha with ⟨e, _⟩ | ⟨_, e⟩ | ⟨_, e⟩ | ⟨_, e⟩
        · rw [refD_chg] at e
          by_cases c : InR m lo hi
          · exact c
          · rw [if_neg c] at e
            cases e
        all_goals cases e
      have push : tyV K "list" (V.ref al) H3 ∧ rIxL K (V.ref al) (V.int (-1)) H3 fun x H4 => rIxT K (V.ref t) (V.int 0) H4 fun y1 H5 => rIxT K (V.ref t) (V.int 1) H5 fun y2 H6 => rIxT K (V.ref t) (V.int 2) H6 fun y3 H7 => rIxT K (V.ref t) (V.int 3) H7 fun y4 H8 => sp_l_changed11 [x, y1, y2, y3, y4] H8 (fun v H9 => rAppend (V.ref al) [v] H9 fun _ H' => Q V.non H') E := by
        refine ⟨ty_lst e3, ixL_last (SqL.of e3) hz' ?_⟩
        refine ixT_ap (j := 0) sT3 rfl ?_
        refine ixT_ap (j := 1) sT3 rfl ?_
        refine ixT_ap (j := 2) sT3 rfl ?_
        refine ixT_ap (j := 3) sT3 rfl ?_
        refine ⟨p, rs, w, lo, hi, z, rfl, hR3, by omega, fun r H4 s4 hr4 => ?_⟩
        have e4 := s4 _ _ e3
        refine app_ap e4 (by rw [hlr]; omega) ?_
        have R4 := R.chg (op := opOf w z) hI.2.1
        have rZ : r ∉ [dl, ul, al] := by
          obtain ⟨tt, g1, g2⟩ := hr4
          have hne := R4.ne
          obtain ⟨t0, tt, rfl⟩ : ∃ t0 tt', tt = t0 :: tt' := by
            cases tt with
            | nil => have := g2.len; simp at this; omega
            | cons t0 tt => exact ⟨t0, tt, rfl⟩
          obtain ⟨r0, _, ht0⟩ := g2.get (i := 0) (t := t0) rfl
          unfold RunAt at ht0
          refine notZ (fun y => ?_) (fun y => ?_) (fun y => ?_)
          · subst y
            rw [s4 _ _ e1] at g1
            injection g1 with g1
            injection g1 with g1
            cases ts with
            | nil =>
              injection g1 with g1 _
              injection g1 with g1
              subst g1
              have w1 := s4 _ _ ((hd1.keep k13 l1).1)
              rw [w1] at ht0
              cases ht0
            | cons t1 ts =>
              injection g1 with g1 _
              injection g1 with g1
              subst g1
              obtain ⟨d1, ed1⟩ : ∃ d1, ds[0]? = some d1 := ⟨_, List.getElem?_eq_getElem (by rw [← lts]; simp)⟩
              have w1 := s4 _ _ (((hdd.2 0 t1 d1 rfl ed1).keep k l).1)
              rw [w1] at ht0
              cases d1 <;> cases ht0
          · subst y
            rw [s4 _ _ e2] at g1
            injection g1 with g1
            injection g1 with g1
            cases vals with
            | nil =>
              injection g1 with g1 _
              cases g1
            | cons v1 vals =>
              injection g1 with g1 _
              obtain ⟨xs, w1, _⟩ := (hua.keep k vn).ref (j := 0) (p := t0) (by rw [g1]; rfl)
              rw [s4 _ _ w1] at ht0
              cases ht0
          · subst y
            rw [e4] at g1
            injection g1 with g1
            injection g1 with g1
            have : ∃ q0, q0 ∈ p :: ps ∧ q0 = t0 := by
              have m1 : V.ref t0 ∈ (ps.map V.ref).reverse ++ [V.ref p] := by rw [g1]; exact List.mem_cons_self
              rcases List.mem_append.mp m1 with m1 | m1
              · rw [List.mem_reverse] at m1
                obtain ⟨q0, h1, h2⟩ := List.mem_map.mp m1
                injection h2 with h2
                exact ⟨q0, List.mem_cons_of_mem _ h1, h2⟩
              · have h2 := List.mem_singleton.mp m1
                injection h2 with h2
                exact ⟨p, List.mem_cons_self, h2.symm⟩
            obtain ⟨q0, h1, rfl⟩ := this
            have inL : ∀ {qs : List Addr} {SS : List Rw}, RnL H1 m L qs SS → q0 ∈ qs → ∃ xs, H1 q0 = some (.lst xs) := by
              intro qs
              induction qs with
              | nil => intro SS _ hm; cases hm
              | cons q1 qs ih =>
                intro SS hh hm
                cases SS with
                | nil => exact hh.elim
                | cons f1 SS =>
                  obtain ⟨⟨rs1, ⟨tt1, w1, _⟩, _⟩, hh⟩ := hh
                  rcases List.mem_cons.mp hm with rfl | hm
                  · exact ⟨_, w1⟩
                  · exact ih hh hm
            obtain ⟨xs, w1⟩ := inL hRn1 h1
            have w2 := s4 _ _ (k13 _ _ w1 (hps q0 h1) (by intro ps z; cases z))
            rw [w2] at ht0
            cases ht0
        have k5 : KeepS [dl, ul, al] H3 (upd H4 al (.lst (((ps.map V.ref).reverse ++ [.ref p]) ++ [.ref r]))) := (KeepS.same s4).trans (.put mA)
        have lc := chg_len (op := opOf w z) (c := lo) (d := hi) R.cov
        refine fin _ .non (r :: p :: ps) (k.trans k5) (fun T h => RB.Tabs.put ((tb T h).ext s4) e4 _) ?_ ?_ (ha.keep k5 nrn) nrn (by rw [upd_same, List.map_cons, List.map_cons, List.reverse_cons, List.reverse_cons]) ?_ (fun x hx => ?_)
        · rw [upd_ne ne2]
          exact s4 _ _ e1
        · rw [upd_ne ne3]
          exact s4 _ _ e2
        · rw [step_chg, if_pos hI]
          exact ⟨⟨_, hr4.keepS (.put mA) (l3.same s4) rZ, R4, by omega⟩, hRn1.keep (k13.trans k5) l1 (by omega) hps⟩
        · rcases List.mem_cons.mp hx with rfl | hx
          · exact rZ
          · exact hps x hx
      refine ixT_ap (j := 0) sT3 rfl ?_
      simp only [rEqS_ap]
      walk_at "ev"
      rcases ok with rfl | rfl
      · rw [if_pos rfl]
        exact push
      · rw [if_neg b3]
        refine ixT_ap (j := 0) sT3 rfl ?_
        simp only [rEqS_ap]
        walk_at "ev"
        exact push
    · rename_i ev
      refine stay v H3 ?_ k tb e1 e2 e3 ha hv k13
      refine step_ref (by simp) fun z0 => ev ?_
      rcases ha with ⟨_, e⟩ | ⟨e, _⟩ | ⟨e, _⟩ | ⟨e, _⟩
      · exact e
      all_goals rw [z0] at e; cases e
  | first lo b =>
    have sT1 : SqT K H1 t [.str "first", .int lo, .int b] := SqT.of hd1.1
    refine ixT_ap (j := 0) sT1 rfl ?_
    simp only [rEqS_ap, tBM0]
    walk_at "ev"
    rw [if_neg (by decide +kernel)]
    refine common (by intro z; cases z) _ fun v H3 k tb l3 e1 e2 e3 ha hv k13 => ?_
    have sT3 : SqT K H3 t [.str "first", .int lo, .int b] := SqT.of (hd1.keep k13 l1).1
    have fine := stay v H3 rfl k tb e1 e2 e3 ha hv k13
    split
    · refine ixT_ap (j := 0) sT3 rfl ?_
      simp only [rEqS_ap]
      walk_at "ev"
      rw [if_neg (by decide +kernel)]
      refine ixT_ap (j := 0) sT3 rfl ?_
      simp only [rEqS_ap]
      walk_at "ev"
      rw [if_neg (by decide +kernel)]
      exact fine
    · exact fine
  | ask w lo hi =>
    have sT1 : SqT K H1 t [.str w, .int lo, .int hi] := SqT.of hd1.1
    have ok := hd1.2
    refine ixT_ap (j := 0) sT1 rfl ?_
    simp only [rEqS_ap, tBM0]
    walk_at "ev"
    rw [if_neg (by rcases ok with rfl | rfl | rfl | rfl <;> decide +kernel)]
    refine common (by intro z; cases z) _ fun v H3 k tb l3 e1 e2 e3 ha hv k13 => ?_
    have sT3 : SqT K H3 t [.str w, .int lo, .int hi] := SqT.of (hd1.keep k13 l1).1
    have fine := stay v H3 rfl k tb e1 e2 e3 ha hv k13
    split
    · refine ixT_ap (j := 0) sT3 rfl ?_
      simp only [rEqS_ap]
      walk_at "ev"
      rw [if_neg (by rcases ok with rfl | rfl | rfl | rfl <;> decide +kernel)]
      refine ixT_ap (j := 0) sT3 rfl ?_
      simp only [rEqS_ap]
      walk_at "ev"
      rw [if_neg (by rcases ok with rfl | rfl | rfl | rfl <;> decide +kernel)]
      exact fine
    · exact fine
end
end RB
namespace RB
open PySem PySem.Spec PyProof.Rows L2 LamX NdefX
local macro_rules | `(tactic| walk_at "ev") => `(tactic| try simp only [tSeq, tIfS, tTest, tNot, tAnd, tOr, tB, tOp, tUn, tVar, tC, tRet, tAsg, gName, tNext, tCB, tCons, tNil, tDrop, tRaise, tChain, tChain3, tAndV, tOrV, tNotV, tIf, tCall, tFld_ap, tLc_ap, tLcR_ap, tFor_ap, tForR_ap, tForR2_ap, nTry, nTryAs, tCallS, tKnown, tBM, gSub, tSl, tNoPart, tPart, tLst, tTup, wipe,
  List.getElem?_cons_zero, List.getElem?_cons_succ, List.set_cons_zero, List.set_cons_succ, ex_some, ex_bl, ex_int, List.nil_append, List.cons_append, List.append_nil,
  nAdd_ap, nSub_ap, nLt_ap, nLe_ap, nGt_ap, nGe_ap, nMul_ap, nMulW_ap, nDiv_ap, nMod_ap, nPow_ap, nNeg_ap, nMax_ap, nMin_ap, rEq_ap, rNe_ap, nIs_ap, nIsNot_ap, dec_int_non, dec_ref_non, dec_non_non, ref_non, int_non, non_ref, non_int, isi_int_int, isi_int_bool,
  decide_eq_true_eq, Bool.not_eq_true', decide_eq_false_iff_not, decide_true, decide_false, Bool.not_true, Bool.not_false, ite_tt', ite_ff', Bool.false_eq_true, Bool.true_eq_false, not_true_eq_false, not_false_eq_true, if_true, if_false])
section
variable {K : PySem.W.Frag} {C CO CT CZ CN : Addr} {T : List (Addr × Str)}
def StQ (C : Addr) (T : List (Addr × Str)) (H : Hp) (Q : VK) : Prop := ∀ (t b p : Addr) (m : Int) (f : Rw) (rs : List Rn) (H' : Hp), ExtN H H' → Tabs T H' → H' t = some (.tup [.ref b, .ref p, .int m]) → Bk C H' b m f → RunsAt H' p rs → Rr f rs m → rs.length ≤ 70 → Q (.ref t) H'
theorem ExtN.tr {H H1 H2 : Hp} (a : ExtN H H1) (b : ExtN H1 H2) : ExtN H H2 := fun x o e t => b x o (a x o e t) t
theorem StQ.ext {H H1 : Hp} {Q : VK} (q : StQ C T H Q) (e : ExtN H H1) : StQ C T H1 Q := fun t b p m f rs H' e' => q t b p m f rs H' (ExtN.tr e e')
theorem start_8 {H : Hp} {Q : VK} {E : XK} {nx : L2.St → Hp → Prop} {a b p : Addr} {m : Int} {f : Rw} {rs : List Rn} {o2 o5 : Option V} (hT : Tabs T H) (hB : Bk C H b m f) (hR : RunsAt H p rs) (R : Rr f rs m) (hl : rs.length ≤ 70) (q : StQ C T H Q) :
    t_l_start_8 K (sp_l_cell_at K) sp_l_number_by (sp_made K C CN) (sp_even C CN) (sp_deed C CO T opAdd) sp_l_changed11 E { nx := nx, rt := Q } [some (.ref a), some (.int m), o2, some (.ref b), some (.ref p), o5] H := by
  unfold t_l_start_8
  walk_at "ev"
  refine ⟨by show 3 ≤ sizeLine; decide, fun t n => ?_⟩
  have s := same_new n (.tup [.ref b, .ref p, .int m])
  exact q t b p m f rs _ (RB.Same.ext s) (hT.ext s) upd_same (hB.same s) (hR.same s) R hl
theorem start_7 {H : Hp} {Q : VK} {E : XK} {nx : L2.St → Hp → Prop} {a b p : Addr} {ns : List Int} {m : Int} {f : Rw} {rs : List Rn} {o2 o5 : Option V} (hS : SqL K H a (ns.map V.int)) (hT : Tabs T H) (hB : Bk C H b m f) (hR : RunsAt H p rs) (R : Rr f rs m) (hl : rs.length ≤ 62) (q : StQ C T H Q) :
    t_l_start_7 K (sp_l_cell_at K) sp_l_number_by (sp_made K C CN) (sp_even C CN) (sp_deed C CO T opAdd) sp_l_changed11 E { nx := nx, rt := Q } [some (.ref a), some (.int m), o2, some (.ref b), some (.ref p), o5] H := by
  have nn := hB.nn
  unfold t_l_start_7
  walk_at "ev"
  refine ⟨a, ns, 2, rfl, hS, ?_⟩
  walk_at "ev"
  refine ⟨by decide, ?_⟩
  split
  · refine ⟨⟨by decide, by decide⟩, ?_⟩
    refine bk_deed hB hT (by omega) (by omega) (by omega) fun x H1 e1 T1 hx => ?_
    walk_at "ev"
    refine ⟨⟨by decide, by decide⟩, ?_⟩
    refine ⟨p, rs, _, _, _, _, rfl, hR.ext e1, by omega, fun r H2 s2 hR2 => ?_⟩
    rw [op_add_eq] at hx
    have lc := chg_len (op := opOf "add" 3) (c := m / 2) (d := m) R.cov
    exact start_8 (T1.ext s2) (hx.same s2) hR2 (R.chg (by omega)) (by omega) (q.ext (ExtN.tr e1 (RB.Same.ext s2)))
  · exact start_8 hT hB hR R (by omega) q
theorem one_run {H : Hp} {t p : Addr} {m v : Int} (ht : H t = some (.tup [.int 0, .int m, .int v])) (hp : H p = some (.lst [.ref t])) : RunsAt H p [⟨0, m, v⟩] := ⟨[t], hp, RT.snoc (ts := []) (rs := []) RT.nil ht⟩
theorem start_6 {H : Hp} {Q : VK} {E : XK} {nx : L2.St → Hp → Prop} {a b p : Addr} {ns : List Int} {m : Int} {f : Rw} {rs : List Rn} {o2 o5 : Option V} (hS : SqL K H a (ns.map V.int)) (hT : Tabs T H) (hB : Bk C H b m f) (hR : RunsAt H p rs) (R : Rr f rs m) (hl : rs.length ≤ 62) (q : StQ C T H Q) :
    t_l_start_6 K (sp_l_cell_at K) sp_l_number_by (sp_made K C CN) (sp_even C CN) (sp_deed C CO T opAdd) sp_l_changed11 E { nx := nx, rt := Q } [some (.ref a), some (.int m), o2, some (.ref b), some (.ref p), o5] H := by
  unfold t_l_start_6
  walk_at "ev"
  refine ⟨a, ns, 0, rfl, hS, ?_⟩
  walk_at "ev"
  refine ⟨by decide, ?_⟩
  split
  · refine ⟨a, ns, 0, rfl, hS, ?_⟩
    walk_at "ev"
    have e12 : (10 : Int) ^ (12 : Int).toNat + 1 = 1000000000001 := by decide
    rw [e12]
    refine ⟨by first | decide | exact ⟨by decide, by decide⟩, by first | decide | exact ⟨by decide, by decide⟩, by decide, ?_⟩
    refine ⟨a, ns, 0, rfl, hS, ?_⟩
    walk_at "ev"
    refine ⟨by decide, ?_⟩
    split
    · refine ⟨a, ns, 0, rfl, hS, ?_⟩
      walk_at "ev"
      refine ⟨⟨by decide, by decide⟩, by decide, ?_⟩
      have g0 : 0 ≤ cell ns 0 / 6 % 2001 := by omega
      have g1 : cell ns 0 / 6 % 2001 ≤ 1000000000000 := by omega
      generalize cell ns 0 / 6 % 2001 = m' at g0 g1
      refine ⟨a, ns, 1, rfl, hS, ?_⟩
      simp only [l_number_by_ap]
      refine ⟨m', _, rfl, fun _ b H1 s1 n1 hb => ?_, fun y => by omega⟩
      walk_at "ev"
      refine ⟨a, ns, 1, rfl, s1.seq hS, ?_⟩
      simp only [l_number_by_ap]
      refine ⟨by show 3 ≤ sizeLine; decide, fun t n2 => ?_⟩
      refine ⟨by show 1 ≤ sizeLine; decide, fun p n3 => ?_⟩
      have s3 := same_new n3 (.lst [.ref t])
      have sA := s1.trans ((same_new n2 _).trans s3)
      exact start_7 (sA.seq hS) (hT.ext sA) (((bk_even hb g0 g1).same (same_new n2 _)).same s3) (one_run (s3 _ _ upd_same) upd_same) (.one g0) (by simp) (q.ext (RB.Same.ext sA))
    · have g0 : 0 ≤ cell ns 0 / 6 % 1000000000001 := by omega
      have g1 : cell ns 0 / 6 % 1000000000001 ≤ 1000000000000 := by omega
      generalize cell ns 0 / 6 % 1000000000001 = m' at g0 g1
      refine ⟨a, ns, 1, rfl, hS, ?_⟩
      simp only [l_number_by_ap]
      refine ⟨m', _, rfl, fun _ b H1 s1 n1 hb => ?_, fun y => by omega⟩
      walk_at "ev"
      refine ⟨a, ns, 1, rfl, s1.seq hS, ?_⟩
      simp only [l_number_by_ap]
      refine ⟨by show 3 ≤ sizeLine; decide, fun t n2 => ?_⟩
      refine ⟨by show 1 ≤ sizeLine; decide, fun p n3 => ?_⟩
      have s3 := same_new n3 (.lst [.ref t])
      have sA := s1.trans ((same_new n2 _).trans s3)
      exact start_7 (sA.seq hS) (hT.ext sA) (((bk_even hb g0 g1).same (same_new n2 _)).same s3) (one_run (s3 _ _ upd_same) upd_same) (.one g0) (by simp) (q.ext (RB.Same.ext sA))
  · exact start_7 hS hT hB hR R hl q
def unitR (f : Rw) (n : Nat) : List Rn := (List.range n).map fun k : Nat => ⟨(k : Int), (k : Int) + 1, f k⟩
theorem unitR_succ {f : Rw} {n : Nat} : unitR f (n + 1) = unitR f n ++ [⟨(n : Int), (n : Int) + 1, f n⟩] := by
  unfold unitR
  rw [List.range_succ, List.map_append]
  rfl
theorem unitR_cov {f : Rw} : ∀ n : Nat, Cov f 0 (unitR f n) n
  | 0 => rfl
  | n + 1 => by
    rw [unitR_succ]
    refine Cov.app.mpr ⟨n, unitR_cov n, rfl, by show (n : Int) ≤ n + 1; omega, fun i i0 i1 => ?_, by show (n : Int) + 1 = ((n + 1 : Nat) : Int); omega⟩
    have i0' : (n : Int) ≤ i := i0
    have i1' : i < (n : Int) + 1 := i1
    rw [show i = (n : Int) by omega]
theorem unitR_ok {f : Rw} {n : Nat} (h : 0 < n) : Rr f (unitR f n) n := ⟨unitR_cov n, .inl fun r hr => by
  obtain ⟨k, _, rfl⟩ := List.mem_map.mp hr
  show (k : Int) < (k : Int) + 1
  omega, by unfold unitR; rw [List.length_map, List.length_range]; exact h⟩
theorem start_5 {H : Hp} {Q : VK} {E : XK} {nx : L2.St → Hp → Prop} {a b p : Addr} {ns : List Int} {n : Nat} {f : Rw} {o2 o5 : Option V} (hS : SqL K H a (ns.map V.int)) (hT : Tabs T H) (hB : Bk C H b n f) (hR : RunsAt H p (unitR f n)) (hn : n ≤ 60) (q : StQ C T H Q) :
    t_l_start_5 K (sp_l_cell_at K) sp_l_number_by (sp_made K C CN) (sp_even C CN) (sp_deed C CO T opAdd) sp_l_changed11 E { nx := nx, rt := Q } [some (.ref a), some (.int (n : Nat)), o2, some (.ref b), some (.ref p), o5] H := by
  unfold t_l_start_5
  walk_at "ev"
  split
  · refine ⟨by show 3 ≤ sizeLine; decide, fun t n2 => ?_⟩
    refine ⟨by show 1 ≤ sizeLine; decide, fun p' n3 => ?_⟩
    have sA := (same_new n2 (.tup [.int 0, .int 0, .int 0])).trans (same_new n3 (.lst [.ref t]))
    rename_i e0
    have e0' : n = 0 := by omega
    subst e0'
    exact start_6 (sA.seq hS) (hT.ext sA) (hB.same sA) (one_run (same_new n3 _ _ _ upd_same) upd_same) ⟨⟨rfl, Int.le_refl _, fun i i0 i1 => by have : (0 : Int) ≤ i := i0; have : i < 0 := i1; omega, rfl⟩, .inr rfl, by simp⟩ (by simp) (q.ext (RB.Same.ext sA))
  · rename_i e0
    exact start_6 hS hT hB hR (unitR_ok (by omega)) (by unfold unitR; rw [List.length_map, List.length_range]; omega) q
theorem start_4 {H : Hp} {Q : VK} {E : XK} {nx : L2.St → Hp → Prop} {a b row : Addr} {ns xs : List Int} {o4 o5 : Option V} (hS : SqL K H a (ns.map V.int)) (hT : Tabs T H) (hB : Bk C H b xs.length (rowF xs)) (hr : H row = some (.lst (xs.map V.int))) (hn : xs.length ≤ 60) (q : StQ C T H Q) :
    t_l_start_4 K (sp_l_cell_at K) sp_l_number_by (sp_made K C CN) (sp_even C CN) (sp_deed C CO T opAdd) sp_l_changed11 E { nx := nx, rt := Q } [some (.ref a), some (.int (xs.length : Nat)), some (.ref row), some (.ref b), o4, o5] H := by
  unfold t_l_start_4
  walk_at "ev"
  refine ⟨_, rfl, by omega, by omega, fun D hD => lc_range (lo := 0) (n := ((xs.length : Nat) : Int).toNat) (fun k H' => Same H H' ∧ ∃ ts : List Addr, H' D = some (.lst (ts.map V.ref)) ∧ RT H' ts (unitR (rowF xs) k)) ?_ ?_ ?_⟩
  · exact ⟨same_new hD _, [], upd_same, .nil⟩
  · rintro k H' hk ⟨s, ts, hd, hT'⟩
    rw [show (0 : Int) + (k : Int) = (k : Int) by omega]
    refine ⟨wipe_one, ?_⟩
    simp only [tYes, if_true]
    walk_at "ev"
    refine row_ix (SqL.of (s _ _ hr)) (by omega) (by omega) ?_
    refine ⟨by show 3 ≤ sizeLine; decide, fun t n => ?_⟩
    have s2 := same_new n (.tup [.int (k : Nat), .int ((k : Int) + 1), .int (rowF xs k)])
    have hd2 := s2 _ _ hd
    have hl := hT'.len
    unfold unitR at hl
    rw [List.length_map, List.length_range] at hl
    refine ⟨_, hd2, by rw [List.length_map]; exact size_of (by omega), ?_, ts ++ [t], by rw [upd_same, List.map_append]; rfl, ?_⟩
    · intro x o e
      have nD : x ≠ D := ne_of_none e hD
      rw [upd_ne nD]
      exact s2 _ _ (s _ _ e)
    · rw [unitR_succ]
      have T2 : RT (upd H' t (.tup [.int (k : Nat), .int ((k : Int) + 1), .int (rowF xs k)])) ts (unitR (rowF xs) k) := hT'.off (Off.of s2) hd
      exact (T2.snoc (t := t) (r := ⟨(k : Int), (k : Int) + 1, rowF xs k⟩) upd_same).off .put hd2
  · rintro H' ⟨s, ts, hd, hT'⟩
    rw [Int.toNat_natCast] at hT'
    walk_at "ev"
    exact start_5 (s.seq hS) (hT.ext s) (hB.same s) ⟨ts, hd, hT'⟩ hn (q.ext (RB.Same.ext s))
theorem start_2 {H : Hp} {Q : VK} {E : XK} {nx : L2.St → Hp → Prop} {a : Addr} {ns : List Int} {m : Int} (hS : SqL K H a (ns.map V.int)) (hT : Tabs T H) (m0 : 0 ≤ m) (m1 : m ≤ 60) (q : StQ C T H Q) :
    t_l_start_2 K (sp_l_cell_at K) sp_l_number_by (sp_made K C CN) (sp_even C CN) (sp_deed C CO T opAdd) sp_l_changed11 E { nx := nx, rt := Q } [some (.ref a), some (.int m), none, none, none, none] H := by
  unfold t_l_start_2
  walk_at "ev"
  refine lc_rng (ys := ((List.range m.toNat).map fun k : Nat => numBy (cell ns 1 + (k : Int) * cell ns 2)).map V.int) (by omega) (by omega) (by rw [List.length_map, List.length_map, List.length_range]) ?_ fun D H1 s1 nD e1 => ?_
  · intro j y H' Q' hj hy s q'
    walk_at "ev"
    refine ⟨a, ns, 1, rfl, s.seq hS, ?_⟩
    walk_at "ev"
    refine ⟨a, ns, 2, rfl, s.seq hS, ?_⟩
    walk_at "ev"
    refine ⟨.inl ⟨by omega, by omega⟩, ?_⟩
    rw [l_number_by_ap]
    rw [List.map_map, List.getElem?_map, List.getElem?_range (show j < m.toNat by omega)] at hy
    cases hy
    exact q'
  · generalize hxs : ((List.range m.toNat).map fun k : Nat => numBy (cell ns 1 + (k : Int) * cell ns 2)) = xs at e1
    have hl : xs.length = m.toNat := by rw [← hxs, List.length_map, List.length_range]
    have hm : m = ((xs.length : Nat) : Int) := by omega
    subst hm
    unfold t_l_start_3
    walk_at "ev"
    refine ⟨D, xs, rfl, SqL.of e1, fun _ b H2 t s2 n2 hTr wf rw' _ => ?_, fun z => by omega⟩
    have hB := bk_row hTr wf rw' (by omega)
    have sA := s1.trans s2
    exact start_4 (sA.seq hS) (hT.ext sA) hB (s2 _ _ e1) (by omega) (q.ext (RB.Same.ext sA))
def sp_l_start (K : PySem.W.Frag) (C : Addr) (T : List (Addr × Str)) : Sp := fun vs H Q _ => ∃ (a : Addr) (ns : List Int), vs = [.ref a] ∧ SqL K H a (ns.map V.int) ∧ Tabs T H ∧ StQ C T H Q
theorem p_l_start (vs : List V) (H : Hp) (Q : VK) (E : XK) (h : sp_l_start K C T vs H Q E) :
    t_l_start K (sp_l_cell_at K) sp_l_number_by (sp_made K C CN) (sp_even C CN) (sp_deed C CO T opAdd) sp_l_changed11 E { nx := fun _ H' => Q .non H', rt := Q } (start ["_law_script", "_law_many", "_law_row", "_law_book", "_law_runs", "_law_k"] vs) H := by
  obtain ⟨a, ns, rfl, hS, hT, q⟩ := h
  show t_l_start K (sp_l_cell_at K) sp_l_number_by (sp_made K C CN) (sp_even C CN) (sp_deed C CO T opAdd) sp_l_changed11 E _ [some (.ref a), none, none, none, none, none] H
  unfold t_l_start
  walk_at "ev"
  refine ⟨a, ns, 0, rfl, hS, ?_⟩
  walk_at "ev"
  refine ⟨⟨by decide, by decide⟩, by decide, ?_⟩
  unfold t_l_start_1
  walk_at "ev"
  refine ⟨a, ns, 0, rfl, hS, ?_⟩
  walk_at "ev"
  refine ⟨⟨by decide, by decide⟩, by decide, ?_⟩
  split
  · refine ⟨a, ns, 0, rfl, hS, ?_⟩
    walk_at "ev"
    refine ⟨⟨by decide, by decide⟩, by decide, ?_⟩
    exact start_2 hS hT (by omega) (by omega) q
  · exact start_2 hS hT (by omega) (by omega) q
end
end RB
namespace RB
open PySem PySem.Spec PyProof.Rows L2 LamX NdefX
local macro_rules | `(tactic| walk_at "ev") => `(tactic| try simp only [tSeq, tIfS, tTest, tNot, tAnd, tOr, tB, tOp, tUn, tVar, tC, tRet, tAsg, gName, tNext, tCB, tCons, tNil, tDrop, tRaise, tChain, tChain3, tAndV, tOrV, tNotV, tIf, tCall, tFld_ap, tLc_ap, tLcR_ap, tFor_ap, tForR_ap, tForR2_ap, nTry, nTryAs, tCallS, tKnown, tBM, gSub, tSl, tNoPart, tPart, tLst, tTup, wipe,
  List.getElem?_cons_zero, List.getElem?_cons_succ, List.set_cons_zero, List.set_cons_succ, ex_some, ex_bl, ex_int, List.nil_append, List.cons_append, List.append_nil,
  nAdd_ap, nSub_ap, nLt_ap, nLe_ap, nGt_ap, nGe_ap, nMul_ap, nMulW_ap, nDiv_ap, nMod_ap, nPow_ap, nNeg_ap, nMax_ap, nMin_ap, rEq_ap, rNe_ap, nIs_ap, nIsNot_ap, dec_int_non, dec_ref_non, dec_non_non, ref_non, int_non, non_ref, non_int, isi_int_int, isi_int_bool,
  decide_eq_true_eq, Bool.not_eq_true', decide_eq_false_iff_not, decide_true, decide_false, Bool.not_true, Bool.not_false, ite_tt', ite_ff', Bool.false_eq_true, Bool.true_eq_false, not_true_eq_false, not_false_eq_true, if_true, if_false])
section
variable {K : PySem.W.Frag} {C CO CT CZ CN : Addr} {T : List (Addr × Str)}
theorem Scr.sub {S S' : List Addr} {H : Hp} {a : Addr} {xs : List V} (h : Scr K S H a xs) (s : ∀ x ∈ S', x ∈ S) : Scr K S' H a xs := by
  rcases h with ⟨h, n⟩ | h
  · exact .inl ⟨h, fun z => n (s a z)⟩
  · exact .inr h
structure S14 (K : PySem.W.Frag) (C : Addr) (T : List (Addr × Str)) (H : Hp) (a b p dl ul al : Addr) (ns : List Int) (m : Int) (f : Rw) (rs : List Rn) (L : Nat) (ts : List Addr) (ds : List Dd) (vals : List V) : Prop where
  scr : Scr K [dl, ul, al] H a (ns.map V.int)
  tab : Tabs T H
  book : Bk C H b m f
  runs : RunsAt H p rs
  pz : p ∉ [dl, ul, al]
  rr : Rr f rs m
  n : N14 H dl ul al m f L ts ds vals
  m1 : m ≤ 1000000000000
theorem S14.keep {H H' : Hp} {a b p dl ul al : Addr} {ns : List Int} {m : Int} {f : Rw} {rs : List Rn} {L L' : Nat} {ts ts' : List Addr} {ds ds' : List Dd} {vals vals' : List V} (S : S14 K C T H a b p dl ul al ns m f rs L ts ds vals) (k : KeepS [dl, ul, al] H H') (tb : ∀ T, Tabs T H → Tabs T H') (n : N14 H' dl ul al m f L' ts' ds' vals') : S14 K C T H' a b p dl ul al ns m f rs L' ts' ds' vals' :=
  ⟨S.scr.keep k, tb _ S.tab, S.book.ins (k.ins S.n.sl), S.runs.keepS k S.n.sl S.pz, S.pz, S.rr, n, S.m1⟩
theorem N14.same {H H' : Hp} {dl ul al : Addr} {m : Int} {f : Rw} {L : Nat} {ts : List Addr} {ds : List Dd} {vals : List V} (N : N14 H dl ul al m f L ts ds vals) (s : Same H H') : N14 H' dl ul al m f L ts ds vals := by
  obtain ⟨ps, e, h, n⟩ := N.a
  exact ⟨s _ _ N.d, N.dd.keep (Z := [dl, ul, al]) (.same s) N.sl, s _ _ N.u, N.ua.keep (Z := [dl, ul, al]) (.same s) N.vn, ⟨ps, s _ _ e, h.keep (.same s) N.sl (Nat.le_refl _) n, n⟩, N.ne1, N.ne2, N.ne3, N.vn⟩
theorem S14.same {H H' : Hp} {a b p dl ul al : Addr} {ns : List Int} {m : Int} {f : Rw} {rs : List Rn} {L : Nat} {ts : List Addr} {ds : List Dd} {vals : List V} (S : S14 K C T H a b p dl ul al ns m f rs L ts ds vals) (s : Same H H') : S14 K C T H' a b p dl ul al ns m f rs L ts ds vals :=
  S.keep (.same s) (fun _ h => h.ext s) (S.n.same s)
def Z14 (K : PySem.W.Frag) (C : Addr) (T : List (Addr × Str)) (H : Hp) (a b p dl ul al : Addr) (ns : List Int) (m : Int) (f : Rw) (rs : List Rn) (n : Nat) : Prop := ∃ L ts ds vals, S14 K C T H a b p dl ul al ns m f rs L ts ds vals ∧ L ≤ 70 + 2 * ds.length ∧ ds.length ≤ n
theorem noted_ap {H : Hp} {Q : VK} {E : XK} {a b p dl ul al t : Addr} {ns : List Int} {m : Int} {f : Rw} {rs : List Rn} {n : Nat} {d : Dd} (Z : Z14 K C T H a b p dl ul al ns m f rs n) (hd : DdAt H t d) (hn : n ≤ 900) (q : ∀ H', Z14 K C T H' a b p dl ul al ns m f rs (n + 1) → Q .non H') :
    sp_l_noted [.ref t, .ref dl, .ref ul, .ref al, .int m] H Q E := by
  obtain ⟨L, ts, ds, vals, S, hL, hz⟩ := Z
  refine ⟨t, dl, ul, al, m, f, L, ts, ds, vals, d, rfl, S.n, hd, S.book.nn, S.m1, by omega, by omega, fun H' v k tb N => ?_⟩
  exact q H' ⟨L + 2, _, _, _, S.keep k tb N, by rw [List.length_append, List.length_singleton]; omega, by rw [List.length_append, List.length_singleton]; omega⟩
theorem Z14.same {H H' : Hp} {a b p dl ul al : Addr} {ns : List Int} {m : Int} {f : Rw} {rs : List Rn} {n : Nat} (Z : Z14 K C T H a b p dl ul al ns m f rs n) (s : Same H H') : Z14 K C T H' a b p dl ul al ns m f rs n := by
  obtain ⟨L, ts, ds, vals, S, h⟩ := Z
  exact ⟨L, ts, ds, vals, S.same s, h⟩
theorem Z14.more {H : Hp} {a b p dl ul al : Addr} {ns : List Int} {m : Int} {f : Rw} {rs : List Rn} {n n' : Nat} (Z : Z14 K C T H a b p dl ul al ns m f rs n) (h : n ≤ n') : Z14 K C T H a b p dl ul al ns m f rs n' := by
  obtain ⟨L, ts, ds, vals, S, h1, h2⟩ := Z
  exact ⟨L, ts, ds, vals, S, h1, Nat.le_trans h2 h⟩
theorem Z14.top {H : Hp} {a b p dl ul al : Addr} {ns : List Int} {m : Int} {f : Rw} {rs : List Rn} {n : Nat} (Z : Z14 K C T H a b p dl ul al ns m f rs n) {Q : VK} (hn : n ≤ 900) (q : ∀ p' rs', RunsAt H p' rs' → 0 < rs'.length → Q (.ref p') H) : rIxL K (.ref al) (.int (-1)) H Q := by
  obtain ⟨L, ts, ds, vals, S, h1, h2⟩ := Z
  obtain ⟨ps, e, h, _⟩ := S.n.a
  have sne : stk m [f] ds ≠ [] := stk_ne (by simp)
  have sl := stk_len (m := m) (ds := ds) (S := [f])
  have hl := h.len
  generalize stk m [f] ds = SS at h sne sl hl
  cases SS with
  | nil => exact absurd rfl sne
  | cons g S' =>
    cases ps with
    | nil => cases hl
    | cons p' ps =>
      obtain ⟨⟨rs', h1, h2, _⟩, _⟩ := h
      rw [List.map_cons, List.reverse_cons] at e
      refine ixL_last (SqL.of e) ?_ (q p' rs' h1 h2.ne)
      rw [List.length_reverse, List.length_map]
      simp only [List.length_cons, List.length_nil] at sl hl
      omega
theorem strs_ok : PyData.strOk ("add" : Str) = true ∧ PyData.strOk ("fill" : Str) = true ∧ PyData.strOk ("total" : Str) = true ∧ PyData.strOk ("least" : Str) = true ∧ PyData.strOk ("place" : Str) = true ∧ PyData.strOk ("list" : Str) = true ∧ PyData.strOk ("first" : Str) = true ∧ PyData.strOk ("back" : Str) = true ∧ PyData.strOk ("out of row" : Str) = true ∧ PyData.strOk ("nothing" : Str) = true ∧ PyData.strOk ("too many" : Str) = true := by decide +kernel
def Dz (K : PySem.W.Frag) (H : Hp) (x : V) : Prop := ∃ d, Dp K H x d ∧ d.canLay0 = true ∧ d.depth ≤ 3
theorem dz_all {H : Hp} : ∀ {xs : List V}, (∀ x ∈ xs, Dz K H x) → ∃ ds, DpAll K H xs ds ∧ PyData.canLayAll0 ds = true ∧ PyData.depthAll ds ≤ 3
  | [], _ => ⟨[], .nil, rfl, by show 0 ≤ 3; omega⟩
  | x :: xs, h => by
    obtain ⟨d, h1, h2, h3⟩ := h x List.mem_cons_self
    obtain ⟨ds, g1, g2, g3⟩ := dz_all fun y hy => h y (List.mem_cons_of_mem _ hy)
    exact ⟨d :: ds, .cons h1 g1, by rw [PyData.canLayAll0, h2, g2]; rfl, by rw [PyData.depthAll]; omega⟩
theorem neD_same {H : Hp} {Q : VK} {a b : Addr} {xs : List V} (ha : H a = some (.lst xs)) (hb : H b = some (.lst xs)) (h : ∀ x ∈ xs, Dz K H x) (q : Q (.bl false) H) : rNeD K (.ref a) (.ref b) H Q := by
  obtain ⟨ds, g1, g2, g3⟩ := dz_all h
  have sh : SeqAt.shaped (.list ds) = true := by
    unfold SeqAt.shaped
    rw [PyData.canLay0, g2, PyData.depth]
    simp
    omega
  refine ⟨.list ds, .list ds, .lst (SqL.of ha) g1, .lst (SqL.of hb) g1, sh, sh, ?_⟩
  rw [SeqAt.eqv_refl _ (SeqAt.canLay_of_shaped sh)]
  exact q
theorem dz_int {H : Hp} (i : Int) : Dz K H (.int i) := ⟨_, .int i, rfl, by show 0 ≤ 3; omega⟩
theorem dz_str {H : Hp} {s : Str} (h : PyData.strOk s = true) : Dz K H (.str s) := ⟨_, .str s, h, by show 0 ≤ 3; omega⟩
theorem dz_non {H : Hp} : Dz K H .non := ⟨_, .non, rfl, by show 0 ≤ 3; omega⟩
theorem dz_ints {H : Hp} {p : Addr} {zs : List Int} (h : H p = some (.lst (zs.map V.int))) : Dz K H (.ref p) := ⟨_, .lst (SqL.of h) (dp_ints zs), by rw [PyData.canLay0]; exact PySem.W.ke_canLayAll0 zs, by rw [PyData.depth, PySem.W.ke_depthAll]; omega⟩
theorem dz_deed {H : Hp} {t : Addr} {d : Dd} (h : DdAt H t d) : Dz K H (.ref t) := by
  obtain ⟨h, ok⟩ := h
  obtain ⟨s1, s2, s3, s4, s5, s6, s7, s8, _⟩ := strs_ok
  cases d with
  | chg w lo hi z =>
    refine ⟨_, .tup (SqT.of h) (.cons (.str w) (.cons (.int lo) (.cons (.int hi) (.cons (.int z) .nil)))), ?_, ?_⟩
    · rcases ok with rfl | rfl
      · simp [PyData.canLay0, PyData.canLayAll0, s1]
      · simp [PyData.canLay0, PyData.canLayAll0, s2]
    · simp [PyData.depth, PyData.depthAll]
  | ask w lo hi =>
    refine ⟨_, .tup (SqT.of h) (.cons (.str w) (.cons (.int lo) (.cons (.int hi) .nil))), ?_, ?_⟩
    · rcases ok with rfl | rfl | rfl | rfl
      · simp [PyData.canLay0, PyData.canLayAll0, s3]
      · simp [PyData.canLay0, PyData.canLayAll0, s4]
      · simp [PyData.canLay0, PyData.canLayAll0, s5]
      · simp [PyData.canLay0, PyData.canLayAll0, s6]
    · simp [PyData.depth, PyData.depthAll]
  | first lo b =>
    refine ⟨_, .tup (SqT.of h) (.cons (.str "first") (.cons (.int lo) (.cons (.int b) .nil))), ?_, ?_⟩
    · simp [PyData.canLay0, PyData.canLayAll0, s7]
    · simp [PyData.depth, PyData.depthAll]
  | back =>
    refine ⟨_, .tup (SqT.of h) (.cons (.str "back") .nil), ?_, ?_⟩
    · simp [PyData.canLay0, PyData.canLayAll0, s8]
    · simp [PyData.depth, PyData.depthAll]
theorem ansD_alike {m : Int} {S : List Rw} {d : Dd} {v u : V} {H : Hp} (hv : AnsD m S d v H) (hu : AnsD m S d u H) : Alike H v u := by
  rcases hv with ⟨e, hv⟩ | ⟨e, rfl⟩ | ⟨e, rfl⟩ | ⟨e, rfl⟩ <;> rcases hu with ⟨e', hu⟩ | ⟨e', rfl⟩ | ⟨e', rfl⟩ | ⟨e', rfl⟩ <;> first | (exfalso; omega) | exact .inr (.inr (.inl ⟨_, rfl, rfl⟩)) | skip
  cases d with
  | first lo b =>
    obtain ⟨r, hr, rfl⟩ := hv
    obtain ⟨r', hr', rfl⟩ := hu
    rw [first_uniq hr hr']
    exact .opt _
  | ask w lo hi =>
    refine due_alike hv (.refl H) hu fun ew => ?_
    rw [refD_ask] at e
    by_cases hc : InR m lo hi
    · rw [if_pos hc] at e
      by_cases h1 : 1000 < hi - lo
      · rw [if_pos ⟨ew, h1⟩] at e
        cases e
      · omega
    · rw [if_neg hc] at e
      cases e
  | _ =>
    have hv' : v = .non := hv
    have hu' : u = .non := hu
    subst hv'
    subst hu'
    exact .inl ⟨rfl, rfl⟩
def Kind (v : V) : Prop := v = .non ∨ (∃ i, v = .int i) ∨ (∃ s, v = .str s ∧ PyData.strOk s = true) ∨ ∃ p, v = .ref p
theorem ansD_kind {m : Int} {S : List Rw} {d : Dd} {v : V} {H : Hp} (h : AnsD m S d v H) : Kind v := by
  obtain ⟨_, _, _, _, _, _, _, _, s1, s2, s3⟩ := strs_ok
  rcases h with ⟨e, h⟩ | ⟨_, h⟩ | ⟨_, h⟩ | ⟨_, h⟩
  · cases d with
    | first lo b =>
      obtain ⟨r, _, rfl⟩ := h
      cases r with
      | none => exact .inl rfl
      | some i => exact .inr (.inl ⟨i, rfl⟩)
    | ask w lo hi =>
      rcases h with ⟨_, z⟩ | ⟨y, q, z, hq⟩ | ⟨_, a, _, z⟩ | ⟨_, a, _, z⟩
      · exact .inr (.inl ⟨_, z⟩)
      · exact .inr (.inr (.inr ⟨q, z⟩))
      · exact .inr (.inl ⟨_, z⟩)
      · exact .inr (.inl ⟨_, z⟩)
    | _ => exact .inl h
  · exact .inr (.inr (.inl ⟨_, h, s1⟩))
  · exact .inr (.inr (.inl ⟨_, h, s2⟩))
  · exact .inr (.inr (.inl ⟨_, h, s3⟩))
structure B14 (C : Addr) (T : List (Addr × Str)) (P : List Addr) (H : Hp) (b p dl dh ul lp : Addr) (m : Int) (f : Rw) (rs : List Rn) (ts : List Addr) (ds : List Dd) (vals : List V) : Prop where
  tab : Tabs T H
  book : Bk C H b m f
  runs : RunsAt H p rs
  pz : p ∉ P
  rr : Rr f rs m
  m1 : m ≤ 1000000000000
  rl : rs.length ≤ 100000
  d : H dl = some (.lst (ts.map V.ref))
  dn : dl ∉ P
  h : H dh = some (.lst (ts.map V.ref))
  hn : dh ∉ P
  dd : DdsAt H ts ds
  dz : ds.length ≤ 1000
  u : H ul = some (.lst vals)
  un : ul ∉ P
  ua : AnsAll m [f] ds vals H
  vn : ∀ (j : Nat) q, vals[j]? = some (.ref q) → q ∉ P
  l : H lp = some (.lst [.int 0, .int 1])
  ln : lp ∉ P
  sl : SL P H
section
variable {P P' : List Addr} {H H' : Hp} {b p dl dh ul lp : Addr} {m : Int} {f : Rw} {rs : List Rn} {ts : List Addr} {ds : List Dd} {vals : List V}
theorem B14.keep (B : B14 C T P H b p dl dh ul lp m f rs ts ds vals) (k : KeepS P H H') (tb : Tabs T H') (sl : SL P H') : B14 C T P H' b p dl dh ul lp m f rs ts ds vals :=
  have kl : ∀ {x : Addr} {xs : List V}, H x = some (.lst xs) → x ∉ P → H' x = some (.lst xs) := fun e n => k _ _ e n (by intro ps z; cases z)
  ⟨tb, B.book.ins (k.ins B.sl), B.runs.keepS k B.sl B.pz, B.pz, B.rr, B.m1, B.rl, kl B.d B.dn, B.dn, kl B.h B.hn, B.hn, B.dd.keep k B.sl, B.dz, kl B.u B.un, B.un, B.ua.keep k B.vn, B.vn, kl B.l B.ln, B.ln, sl⟩
theorem B14.sub (B : B14 C T P H b p dl dh ul lp m f rs ts ds vals) (s : ∀ x ∈ P', x ∈ P) : B14 C T P' H b p dl dh ul lp m f rs ts ds vals :=
  ⟨B.tab, B.book, B.runs, fun z => B.pz (s _ z), B.rr, B.m1, B.rl, B.d, fun z => B.dn (s _ z), B.h, fun z => B.hn (s _ z), B.dd, B.dz, B.u, fun z => B.un (s _ z), B.ua, fun j q e z => B.vn j q e (s _ z), B.l, fun z => B.ln (s _ z), fun x hx => B.sl x (s x hx)⟩
theorem B14.wide (B : B14 C T P H b p dl dh ul lp m f rs ts ds vals) (e : ExtN H H') (tb : Tabs T H') (hP : ∀ x ∈ P', x ∈ P ∨ Nob H x) (sl : SL P' H') : B14 C T P' H' b p dl dh ul lp m f rs ts ds vals :=
  have nn : ∀ {x : Addr} {xs : List V}, H x = some (.lst xs) → x ∉ P → x ∉ P' := fun {x xs} e n z => (hP x z).elim n fun y => y.ne e rfl
  have kl : ∀ {x : Addr} {xs : List V}, H x = some (.lst xs) → H' x = some (.lst xs) := fun q => e _ _ q (by intro ps z; cases z)
  have pr : ∃ xs, H p = some (.lst xs) := by obtain ⟨tt, g, _⟩ := B.runs; exact ⟨_, g⟩
  ⟨tb, B.book.ins (Ins.extN e), B.runs.ext e, nn pr.choose_spec B.pz, B.rr, B.m1, B.rl, kl B.d, nn B.d B.dn, kl B.h, nn B.h B.hn, B.dd.keep (Z := []) (.ext e) (by intro x hx; cases hx), B.dz, kl B.u, nn B.u B.un, B.ua.keep (Z := []) (.ext e) (fun _ _ _ => by simp), fun j q z => by
    obtain ⟨zs, g, _⟩ := B.ua.ref z
    exact nn g (B.vn j q z), kl B.l, nn B.l B.ln, sl⟩
end
structure En where
  tp : Addr
  f : Addr
  c : Addr
  xs : List V
def Okv (P : List Addr) (H : Hp) (x : V) : Prop := x = .non ∨ (∃ i, x = .int i) ∨ (∃ s, x = .str s ∧ PyData.strOk s = true) ∨ ∃ (q : Addr) (zs : List Int), x = .ref q ∧ q ∉ P ∧ H q = some (.lst (zs.map V.int))
def EnOk (P : List Addr) (H : Hp) (e : En) : Prop := H e.tp = some (.tup [.ref e.f, .ref e.c]) ∧ H e.f = some (.lst e.xs) ∧ H e.c = some (.lst e.xs) ∧ e.tp ∉ P ∧ e.f ∉ P ∧ e.c ∉ P ∧ ∀ x ∈ e.xs, Okv P H x
section
variable {P P' : List Addr} {H H' : Hp} {e : En}
theorem Okv.keep {x : V} (h : Okv P H x) (k : KeepS P H H') : Okv P H' x := by
  rcases h with h | h | h | ⟨q, zs, e, n, g⟩
  · exact .inl h
  · exact .inr (.inl h)
  · exact .inr (.inr (.inl h))
  · exact .inr (.inr (.inr ⟨q, zs, e, n, k _ _ g n (by intro ps z; cases z)⟩))
theorem Okv.sub {x : V} (h : Okv P H x) (s : ∀ x ∈ P', x ∈ P) : Okv P' H x := by
  rcases h with h | h | h | ⟨q, zs, e, n, g⟩
  · exact .inl h
  · exact .inr (.inl h)
  · exact .inr (.inr (.inl h))
  · exact .inr (.inr (.inr ⟨q, zs, e, fun z => n (s _ z), g⟩))
theorem Okv.dz {x : V} (h : Okv P H x) : Dz K H x := by
  rcases h with rfl | ⟨i, rfl⟩ | ⟨s, rfl, ok⟩ | ⟨q, zs, rfl, n, g⟩
  · exact dz_non
  · exact dz_int i
  · exact dz_str ok
  · exact dz_ints g
theorem EnOk.keep (h : EnOk P H e) (k : KeepS P H H') : EnOk P H' e := by
  obtain ⟨a, b, c, x, y, z, o⟩ := h
  exact ⟨k _ _ a x (by intro ps z; cases z), k _ _ b y (by intro ps z; cases z), k _ _ c z (by intro ps z; cases z), x, y, z, fun v hv => (o v hv).keep k⟩
theorem EnOk.sub (h : EnOk P H e) (s : ∀ x ∈ P', x ∈ P) : EnOk P' H e := by
  obtain ⟨a, b, c, x, y, z, o⟩ := h
  exact ⟨a, b, c, fun q => x (s _ q), fun q => y (s _ q), fun q => z (s _ q), fun v hv => (o v hv).sub s⟩
theorem EnOk.wide (h : EnOk P H e) (x : ExtN H H') (hP : ∀ x ∈ P', x ∈ P ∨ Nob H x) : EnOk P' H' e := by
  obtain ⟨a, b, c, n1, n2, n3, o⟩ := h
  have nn : ∀ {x : Addr} {xs : List V}, H x = some (.lst xs) → x ∉ P → x ∉ P' := fun {x xs} e n z => (hP x z).elim n fun y => y.ne e rfl
  have kl : ∀ {x : Addr} {xs : List V}, H x = some (.lst xs) → H' x = some (.lst xs) := fun q => x _ _ q (by intro ps z; cases z)
  refine ⟨x _ _ a (by intro ps z; cases z), kl b, kl c, fun z => (hP _ z).elim n1 fun y => ?_, nn b n2, nn c n3, fun v hv => ?_⟩
  · obtain ⟨ps, w⟩ := y _ a
    cases w
  · rcases o v hv with h | h | h | ⟨q, zs, e, n, g⟩
    · exact .inl h
    · exact .inr (.inl h)
    · exact .inr (.inr (.inl h))
    · exact .inr (.inr (.inr ⟨q, zs, e, nn g n, kl g⟩))
end
def refsOf (vs : List V) : List Addr := vs.filterMap fun v => match v with
  | .ref p => some p
  | _ => none
theorem mem_refs {vs : List V} {p : Addr} : p ∈ refsOf vs ↔ ∃ j : Nat, vs[j]? = some (.ref p) := by
  unfold refsOf
  rw [List.mem_filterMap]
  constructor
  · rintro ⟨v, hv, e⟩
    obtain ⟨j, hj⟩ := List.getElem?_of_mem hv
    refine ⟨j, ?_⟩
    cases v <;> simp at e
    subst e
    exact hj
  · rintro ⟨j, hj⟩
    exact ⟨_, List.mem_of_getElem? hj, rfl⟩
theorem isi_non_list {H : Hp} {Q : VK} (q : Q (.bl false) H) : rIsi K [.non, .ty "list"] H Q := ⟨_, _, _, _, false, rfl, .ty _, .base .non, kit_ty (by decide +kernel), q⟩
def Pk (hl fp : Addr) (fv : List V) (k : Nat) : List Addr := hl :: fp :: refsOf (fv.drop k)
theorem pk_sub {hl fp : Addr} {fv : List V} {k : Nat} : ∀ x ∈ Pk hl fp fv (k + 1), x ∈ Pk hl fp fv k := fun x hx => by
  unfold Pk at hx ⊢
  rcases List.mem_cons.mp hx with hx | hx
  · exact List.mem_cons.mpr (.inl hx)
  · refine List.mem_cons_of_mem _ ?_
    rcases List.mem_cons.mp hx with hx | hx
    · exact List.mem_cons.mpr (.inl hx)
    · refine List.mem_cons_of_mem _ ?_
      obtain ⟨j, hj⟩ := mem_refs.mp hx
      exact mem_refs.mpr ⟨j + 1, by rw [List.getElem?_drop] at hj ⊢; rw [show k + (j + 1) = k + 1 + j by omega]; exact hj⟩
structure In14 (C : Addr) (T : List (Addr × Str)) (H : Hp) (b p dl dh ul lp hl fp : Addr) (m : Int) (f : Rw) (rs : List Rn) (ts : List Addr) (ds : List Dd) (vals fv : List V) (es : List En) (N k : Nat) : Prop where
  base : B14 C T (Pk hl fp fv k) H b p dl dh ul lp m f rs ts ds vals
  held : H hl = some (.lst (es.map fun e => .ref e.tp))
  ents : ∀ e ∈ es, EnOk (Pk hl fp fv k) H e
  fnd : H fp = some (.lst fv)
  ans : ∀ (j : Nat) d v, k ≤ j → ds[j]? = some d → fv[j]? = some v → AnsD m (stk m [f] (ds.take j)) d v H
  lsts : ∀ (j : Nat) q, fv[j]? = some (.ref q) → ∃ zs : List Int, H q = some (.lst (zs.map V.int)) ∧ zs.length ≤ 1001
  len : es.length ≤ N + k
section
variable {H : Hp} {Q : VK} {E : XK} {a st b p al dl dh ul lp hl fp : Addr} {m tv : Int} {f : Rw} {rs : List Rn} {ts : List Addr} {ds : List Dd} {vals fv : List V} {es : List En} {N k : Nat}
theorem inner_step (I : In14 C T H b p dl dh ul lp hl fp m f rs ts ds vals fv es N k) (hk : k < ds.length) (hfl : fv.length = ds.length) (hN : N ≤ 10000) (hd1 : ∀ (i j : Nat) q, fv[i]? = some (V.ref q) → fv[j]? = some (V.ref q) → i = j) (hd2 : ∀ (j : Nat) q, fv[j]? = some (V.ref q) → q ≠ fp ∧ q ≠ hl) (hne : fp ≠ hl)
    (hkd : ∀ v ∈ fv, Kind v) {D : Ends} (hD : ∀ H' es', In14 C T H' b p dl dh ul lp hl fp m f rs ts ds vals fv es' N (k + 1) → D.nx [some (.ref a), some (.ref st), some (.ref b), some (.ref p), some (.int m), some (.ref al), some (.ref dl), some (.ref ul), some (.int (k : Nat)), some (.ref dh), some (.ref hl), some (.int tv), some (.ref fp), none] H') :
    t_law_k14_12b0 K (sp_l_start K C T) (sp_l_run K) sp_l_noted sp_l_deed_by (sp_answers C T) sp_l_alike10 (sp_length C) sp_l_due14 (sp_total C CO 41) E D [some (.ref a), some (.ref st), some (.ref b), some (.ref p), some (.int m), some (.ref al), some (.ref dl), some (.ref ul), some (.int (k : Nat)), some (.ref dh), some (.ref hl), some (.int tv), some (.ref fp), none] H := by
  have B := I.base
  have hul : vals.length = ds.length := B.ua.1
  obtain ⟨v, hv⟩ : ∃ v, fv[k]? = some v := ⟨_, List.getElem?_eq_getElem (by omega)⟩
  obtain ⟨u, hu⟩ : ∃ u, vals[k]? = some u := ⟨_, List.getElem?_eq_getElem (by omega)⟩
  obtain ⟨d, hd⟩ : ∃ d, ds[k]? = some d := ⟨_, List.getElem?_eq_getElem hk⟩
  have A := ansD_alike (I.ans k d v (Nat.le_refl _) hd hv) (B.ua.2 k d u hd hu)
  unfold t_law_k14_12b0
  walk_at "ev"
  refine ixL_ap (SqL.of I.fnd) hv ?_
  refine ixL_ap (SqL.of B.u) hu ?_
  refine alike_ap A ?_
  walk_at "ev"
  unfold t_law_k14_12b1
  walk_at "ev"
  refine ixL_ap (SqL.of I.fnd) hv ?_
  have stay : In14 C T H b p dl dh ul lp hl fp m f rs ts ds vals fv es N (k + 1) := ⟨B.sub pk_sub, I.held, fun e he => (I.ents e he).sub pk_sub, I.fnd, fun j d v hj => I.ans j d v (by omega), I.lsts, by have := I.len; omega⟩
  rcases hkd v (List.mem_of_getElem? hv) with rfl | ⟨i, rfl⟩ | ⟨s, rfl, _⟩ | ⟨q, rfl⟩
  · refine isi_non_list ?_
    walk_at "ev"
    exact hD H es stay
  · refine isi_int_list ?_
    walk_at "ev"
    exact hD H es stay
  · refine isi_str_list ?_
    walk_at "ev"
    exact hD H es stay
  · obtain ⟨zs, hq, hz⟩ := I.lsts k q hv
    obtain ⟨nf, nh⟩ := hd2 k q hv
    refine isi_lst hq ?_
    walk_at "ev"
    refine ixL_ap (SqL.of I.fnd) hv ?_
    refine ⟨ty_lst hq, ?_⟩
    refine app_ap hq (by rw [List.length_map]; omega) ?_
    rw [show zs.map V.int ++ [V.int tv] = (zs ++ [tv]).map V.int by rw [List.map_append]; rfl]
    have s1 : ∀ x, x ≠ q → upd H q (.lst ((zs ++ [tv]).map V.int)) x = H x := fun x n => upd_ne n
    have hf1 : upd H q (.lst ((zs ++ [tv]).map V.int)) fp = some (.lst fv) := by rw [s1 _ nf.symm]; exact I.fnd
    have hh1 : upd H q (.lst ((zs ++ [tv]).map V.int)) hl = some (.lst (es.map fun e => .ref e.tp)) := by rw [s1 _ nh.symm]; exact I.held
    have hq1 : upd H q (.lst ((zs ++ [tv]).map V.int)) q = some (.lst ((zs ++ [tv]).map V.int)) := upd_same
    have tb1 : Tabs T (upd H q (.lst ((zs ++ [tv]).map V.int))) := RB.Tabs.put B.tab hq _
    have qP : q ∈ Pk hl fp fv k := List.mem_cons_of_mem _ (List.mem_cons_of_mem _ (mem_refs.mpr ⟨0, by rw [List.getElem?_drop]; exact hv⟩))
    have k1 : KeepS [q, hl] H (upd H q (.lst ((zs ++ [tv]).map V.int))) := .put List.mem_cons_self
    have sl1 : SL (Pk hl fp fv k) (upd H q (.lst ((zs ++ [tv]).map V.int))) := B.sl.put
    generalize upd H q (.lst ((zs ++ [tv]).map V.int)) = H1 at hf1 hh1 hq1 tb1 k1 sl1
    refine ⟨ty_lst hh1, ?_⟩
    refine ixL_ap (SqL.of hf1) hv ?_
    refine ixL_ap (SqL.of hf1) hv ?_
    refine list_ap (SqL.of hq1) fun c n2 => ?_
    have s2 := same_new n2 (.lst ((zs ++ [tv]).map V.int))
    refine ⟨by show 2 ≤ sizeLine; decide, fun t n3 => ?_⟩
    have s3 := same_new n3 (.tup [V.ref q, V.ref c])
    have sA := s2.trans s3
    have hh3 := sA _ _ hh1
    refine app_ap hh3 (by rw [List.length_map]; have := I.len; have := B.dz; omega) ?_
    have cP : c ∉ Pk hl fp fv k := sl1.no n2
    have tP : t ∉ Pk hl fp fv k := sl1.no (s2.free n3)
    have tn : t ≠ hl := fun z => by rw [z] at n3; rw [s2 _ _ hh1] at n3; cases n3
    have cn : c ≠ hl := fun z => by rw [z, hh1] at n2; cases n2
    have ct3 : upd (upd H1 c (.lst ((zs ++ [tv]).map V.int))) t (.tup [V.ref q, V.ref c]) t = some (.tup [V.ref q, V.ref c]) := upd_same
    have cc3 : upd (upd H1 c (.lst ((zs ++ [tv]).map V.int))) t (.tup [V.ref q, V.ref c]) c = some (.lst ((zs ++ [tv]).map V.int)) := s3 _ _ upd_same
    have cq3 := sA _ _ hq1
    have tb3 : Tabs T (upd (upd H1 c (.lst ((zs ++ [tv]).map V.int))) t (.tup [V.ref q, V.ref c])) := tb1.ext sA
    have sl3 := sl1.same sA
    have hf3 := sA _ _ hf1
    have k3 : KeepS [q, hl] H (upd (upd H1 c (.lst ((zs ++ [tv]).map V.int))) t (.tup [V.ref q, V.ref c])) := k1.trans (.same sA)
    generalize upd (upd H1 c (.lst ((zs ++ [tv]).map V.int))) t (.tup [V.ref q, V.ref c]) = H3 at hh3 ct3 cc3 cq3 tb3 sl3 hf3 k3
    have k4 : KeepS [q, hl] H (upd H3 hl (.lst ((es.map fun e => V.ref e.tp) ++ [.ref t]))) := k3.trans (.put (List.mem_cons_of_mem _ List.mem_cons_self))
    have kP : KeepS (Pk hl fp fv k) H (upd H3 hl (.lst ((es.map fun e => V.ref e.tp) ++ [.ref t]))) := fun x o e n nt => k4 x o e (fun z => by
      rcases List.mem_cons.mp z with z | z
      · exact n (z ▸ qP)
      · exact n (by rw [List.mem_singleton.mp z]; exact List.mem_cons_self)) nt
    have o4 : ∀ x, x ≠ hl → upd H3 hl (.lst ((es.map fun e => V.ref e.tp) ++ [.ref t])) x = H3 x := fun x n => upd_ne n
    have qN : q ∉ Pk hl fp fv (k + 1) := fun z => by
      rcases List.mem_cons.mp z with z | z
      · exact nh z
      · rcases List.mem_cons.mp z with z | z
        · exact nf z
        · obtain ⟨j, hj⟩ := mem_refs.mp z
          rw [List.getElem?_drop] at hj
          have := hd1 k (k + 1 + j) q hv hj
          omega
    refine hD _ (es ++ [⟨t, q, c, (zs ++ [tv]).map V.int⟩]) ⟨(B.keep kP (RB.Tabs.put tb3 hh3 _) sl3.put).sub pk_sub, by rw [upd_same, List.map_append]; rfl, fun e he => ?_, by rw [o4 _ hne]; exact hf3, fun j d v hj hd hv' => ?_, fun j q' hq' => ?_, by rw [List.length_append, List.length_singleton]; have := I.len; omega⟩
    · rcases List.mem_append.mp he with he | he
      · exact ((I.ents e he).keep kP).sub pk_sub
      · obtain rfl := List.mem_singleton.mp he
        refine ⟨by rw [o4 _ tn]; exact ct3, by rw [o4 _ nh]; exact cq3, by rw [o4 _ cn]; exact cc3, fun z => tP (pk_sub _ z), qN, fun z => cP (pk_sub _ z), fun x hx => ?_⟩
        obtain ⟨i, _, rfl⟩ := List.mem_map.mp hx
        exact .inr (.inl ⟨i, rfl⟩)
    · refine (I.ans j d v (by omega) hd hv').keep k4 fun q' e z => ?_
      subst e
      rcases List.mem_cons.mp z with z | z
      · subst z
        have := hd1 k j _ hv hv'
        omega
      · exact (hd2 j q' hv').2 (List.mem_singleton.mp z)
    · obtain ⟨zs', g1, g2⟩ := I.lsts j q' hq'
      by_cases e : q' = q
      · subst e
        have e' := hd1 k j _ hv hq'
        subst e'
        obtain ⟨xs, w1, w2⟩ : ∃ xs : List Int, H q' = some (.lst (xs.map V.int)) ∧ xs.length ≤ 1000 := by
          obtain ⟨w, lo, hi, e1, r0, rfl, hp⟩ := ansD_ref (I.ans k d _ (Nat.le_refl _) hd hv)
          refine ⟨_, hp, ?_⟩
          rw [e1, refD_ask] at r0
          rw [seg_length]
          by_cases hc : InR m lo hi
          · rw [if_pos hc] at r0
            by_cases h1 : 1000 < hi - lo
            · rw [if_pos ⟨rfl, h1⟩] at r0
              cases r0
            · omega
          · rw [if_neg hc] at r0
            cases r0
        have el : zs.length = xs.length := by
          rw [hq] at w1
          injection w1 with w1
          injection w1 with w1
          have := congrArg List.length w1
          simpa using this
        exact ⟨zs ++ [tv], by rw [o4 _ nh]; exact cq3, by rw [List.length_append, List.length_singleton]; omega⟩
      · exact ⟨zs', k4 _ _ g1 (fun z => by
          rcases List.mem_cons.mp z with z | z
          · exact e z
          · exact (hd2 j q' hq').2 (List.mem_singleton.mp z)) (by intro ps z; cases z), g2⟩
end
section
variable {H : Hp} {Q : VK} {E : XK} {nx : L2.St → Hp → Prop} {a st b p al dl dh ul lp hl : Addr} {m : Int} {f : Rw} {rs : List Rn} {ts : List Addr} {ds : List Dd} {vals : List V} {es : List En}
theorem k14_14 {o8 o11 o12 : Option V} {P : List Addr} (B : B14 C T P H b p dl dh ul lp m f rs ts ds vals) (q : ∀ H', Q (.bl true) H') :
    t_law_k14_14 K (sp_l_start K C T) (sp_l_run K) sp_l_noted sp_l_deed_by (sp_answers C T) sp_l_alike10 (sp_length C) sp_l_due14 (sp_total C CO 41) E { nx := nx, rt := Q } [some (.ref a), some (.ref st), some (.ref b), some (.ref p), some (.int m), some (.ref al), some (.ref dl), some (.ref ul), o8, some (.ref dh), some (.ref hl), o11, o12, none] H := by
  have nn := B.book.nn
  unfold t_law_k14_14
  walk_at "ev"
  refine bk_length B.book ?_
  refine alike_ap (.int _) ?_
  walk_at "ev"
  unfold t_law_k14_15
  walk_at "ev"
  refine bk_total B.book (by omega) nn (by omega) ?_
  refine ⟨p, rs, f, _, 0, m, m, rfl, B.runs, B.rr.cov, B.rl, B.m1, by omega, nn, by omega, .inl rfl, fun v H1 s1 hv _ => ?_⟩
  exact alike_ap (due_alike (H := H) (.inl ⟨rfl, rfl⟩) s1 hv (fun z => absurd z (by decide +kernel))) (q _)
theorem k14_13 {o8 o11 o12 : Option V} (B : B14 C T [hl] H b p dl dh ul lp m f rs ts ds vals) (hh : H hl = some (.lst (es.map fun e => .ref e.tp))) (he : ∀ e ∈ es, EnOk [hl] H e) (q : ∀ H', Q (.bl true) H') :
    t_law_k14_13 K (sp_l_start K C T) (sp_l_run K) sp_l_noted sp_l_deed_by (sp_answers C T) sp_l_alike10 (sp_length C) sp_l_due14 (sp_total C CO 41) E { nx := nx, rt := Q } [some (.ref a), some (.ref st), some (.ref b), some (.ref p), some (.int m), some (.ref al), some (.ref dl), some (.ref ul), o8, some (.ref dh), some (.ref hl), o11, o12, none] H := by
  unfold t_law_k14_13
  walk_at "ev"
  rw [tLcF_ap]
  walk_at "ev"
  refine lc_none (SqL.of hh) (fun k x H' Q' hx s hq => ?_) fun D H1 s1 n1 e1 => ?_
  · rw [List.getElem?_map] at hx
    cases ez : es[k]? with
    | none => rw [ez] at hx; cases hx
    | some e =>
      rw [ez] at hx
      cases hx
      obtain ⟨a1, a2, a3, _, _, _, a7⟩ := (he e (List.mem_of_getElem? ez)).keep (.same s)
      walk_at "ev"
      refine ixT_ap (j := 0) (SqT.of a1) rfl ?_
      refine ixT_ap (j := 1) (SqT.of a1) rfl ?_
      exact neD_same a2 a3 (fun x hx => (a7 x hx).dz) ⟨_, rfl, hq⟩
  · refine ⟨Nat.zero_le _, fun r nr => ?_⟩
    have s2 := same_new nr (.lst [])
    refine neD_same (xs := []) (s2 _ _ e1) upd_same (fun x hx => by cases hx) ?_
    walk_at "ev"
    have sA := s1.trans s2
    exact k14_14 (B.keep (.same sA) (B.tab.ext sA) (B.sl.same sA)) q
theorem k14_12 {o8 : Option V} (B : ∀ lp, H lp = none → B14 C T [hl] (upd H lp (.lst [.int 0, .int 1])) b p dl dh ul lp m f rs ts ds vals) (hh : H hl = some (.lst [])) (q : ∀ H', Q (.bl true) H') :
    t_law_k14_12 K (sp_l_start K C T) (sp_l_run K) sp_l_noted sp_l_deed_by (sp_answers C T) sp_l_alike10 (sp_length C) sp_l_due14 (sp_total C CO 41) E { nx := nx, rt := Q } [some (.ref a), some (.ref st), some (.ref b), some (.ref p), some (.int m), some (.ref al), some (.ref dl), some (.ref ul), o8, some (.ref dh), some (.ref hl), none, none, none] H := by
  unfold t_law_k14_12
  walk_at "ev"
  refine ⟨by show 2 ≤ sizeLine; decide, fun lp n0 => ?_⟩
  have B0 := B lp n0
  have hh0 : upd H lp (.lst [V.int 0, V.int 1]) hl = some (.lst []) := same_new n0 _ _ _ hh
  generalize upd H lp (.lst [V.int 0, V.int 1]) = H0 at B0 hh0
  refine lst_ap (SqL.of B0.l) (fun j σ H' => ∃ (o8 o11 o12 : Option V) (es : List En), σ = [some (.ref a), some (.ref st), some (.ref b), some (.ref p), some (.int m), some (.ref al), some (.ref dl), some (.ref ul), o8, some (.ref dh), some (.ref hl), o11, o12, none] ∧ B14 C T [hl] H' b p dl dh ul lp m f rs ts ds vals ∧
    H' hl = some (.lst (es.map fun e => .ref e.tp)) ∧ (∀ e ∈ es, EnOk [hl] H' e) ∧ es.length ≤ j * 1001) ?_ ?_ ?_ ?_
  · exact ⟨_, _, _, [], rfl, B0, hh0, (by intro e he; cases he), Nat.zero_le _⟩
  · rintro j σ H' _ ⟨o8, o11, o12, es, rfl, B, _⟩
    exact SqL.of B.l
  · rintro j x σ H1 hx ⟨o8, o11, o12, es, rfl, B, hh, he, hel⟩
    have hj : j < 2 := (List.getElem?_eq_some_iff.mp hx).1
    obtain ⟨tv, rfl⟩ : ∃ tv, x = .int tv := by
      match j, hj with
      | 0, _ => cases hx; exact ⟨_, rfl⟩
      | 1, _ => cases hx; exact ⟨_, rfl⟩
    have dz := B.dz
    walk_at "ev"
    refine ⟨b, dh, m, f, ts, ds, rfl, B.book, B.h, B.dd, dz, B.tab, fun fp H2 fv e2 T2 nf f2 A2 V2 ne2 => ?_⟩
    walk_at "ev"
    have nfh : fp ≠ hl := fun z => by rw [z, hh] at nf; cases nf
    have fr : ∀ x ∈ Pk hl fp fv 0, x ∈ [hl] ∨ Nob H1 x := fun x hx => by
      rcases List.mem_cons.mp hx with hx | hx
      · exact .inl (List.mem_singleton.mpr hx)
      · rcases List.mem_cons.mp hx with hx | hx
        · exact .inr (by rw [hx]; exact .none nf)
        · obtain ⟨i, hi⟩ := mem_refs.mp hx
          exact .inr (V2.1 i x (by simpa using hi))
    have sl2 : SL (Pk hl fp fv 0) H2 := fun x hx => by
      rcases List.mem_cons.mp hx with hx | hx
      · exact ⟨_, by rw [hx]; exact ext_lst e2 hh⟩
      · rcases List.mem_cons.mp hx with hx | hx
        · exact ⟨_, by rw [hx]; exact f2⟩
        · obtain ⟨i, hi⟩ := mem_refs.mp hx
          obtain ⟨xs, g, _⟩ := A2.ref (j := i) (p := x) (by simpa using hi)
          exact ⟨_, g⟩
    have B2 := B.wide e2 T2 fr sl2
    have hfl : fv.length = ds.length := A2.1
    refine isi_lst f2 ?_
    walk_at "ev"
    refine nLen_ap (SqL.of f2) ?_
    refine nLen_ap (SqL.of B2.u) ?_
    rw [hfl, B2.ua.1]
    walk_at "ev"
    refine neD_same B2.h B2.d (fun x hx => ?_) ?_
    · obtain ⟨t, ht, rfl⟩ := List.mem_map.mp hx
      obtain ⟨i, hi⟩ := List.getElem?_of_mem ht
      have hil := (List.getElem?_eq_some_iff.mp hi).1
      have hi' : i < ds.length := by rw [← B2.dd.1]; exact hil
      exact dz_deed (B2.dd.2 i t _ hi (List.getElem?_eq_getElem hi'))
    walk_at "ev"
    refine nLen_ap (SqL.of B2.u) ?_
    rw [B2.ua.1]
    have hd2 : ∀ (j : Nat) q, fv[j]? = some (V.ref q) → q ≠ fp ∧ q ≠ hl := fun j q e => ⟨ne2 j q e, (V2.1 j q e).ne hh⟩
    have hkd : ∀ v ∈ fv, Kind v := fun v hv => by
      obtain ⟨i, hi⟩ := List.getElem?_of_mem hv
      have hil := (List.getElem?_eq_some_iff.mp hi).1
      exact ansD_kind (A2.2 i _ v (List.getElem?_eq_getElem (by omega)) hi)
    refine rng1_ap (by omega) (by omega) (fun k σ H' => ∃ (o8 : Option V) (es' : List En), σ = [some (.ref a), some (.ref st), some (.ref b), some (.ref p), some (.int m), some (.ref al), some (.ref dl), some (.ref ul), o8, some (.ref dh), some (.ref hl), some (.int tv), some (.ref fp), none] ∧ In14 C T H' b p dl dh ul lp hl fp m f rs ts ds vals fv es' (j * 1001) k) ?_ ?_ ?_
    · refine ⟨_, es, rfl, B2, ext_lst e2 hh, fun e h => (he e h).wide e2 fr, f2, fun i d v _ => A2.2 i d v, fun i q e => ?_, by omega⟩
      obtain ⟨xs, g, h⟩ := A2.ref e
      exact ⟨xs, g, by omega⟩
    · rintro k σ H' hk ⟨o8, es', rfl, I⟩
      rw [Int.toNat_natCast] at hk
      exact inner_step I hk hfl (by omega) V2.2 hd2 nfh hkd fun H3 es3 I3 => ⟨_, es3, rfl, I3⟩
    · rintro σ H' ⟨o8, es', rfl, I⟩
      rw [Int.toNat_natCast] at I
      have B3 := I.base
      walk_at "ev"
      refine ⟨ty_lst I.fnd, ?_⟩
      refine app_ap I.fnd (by omega) ?_
      have hf4 : upd H' fp (.lst (fv ++ [V.int tv])) fp = some (.lst (fv ++ [V.int tv])) := upd_same
      have hh4 : upd H' fp (.lst (fv ++ [V.int tv])) hl = some (.lst (es'.map fun e => .ref e.tp)) := by rw [upd_ne nfh.symm]; exact I.held
      have fP : fp ∈ Pk hl fp fv ds.length := List.mem_cons_of_mem _ List.mem_cons_self
      have k4 : KeepS [fp, hl] H' (upd H' fp (.lst (fv ++ [V.int tv]))) := .put List.mem_cons_self
      have tb4 : Tabs T (upd H' fp (.lst (fv ++ [V.int tv]))) := RB.Tabs.put B3.tab I.fnd _
      have sl4 : SL (Pk hl fp fv ds.length) (upd H' fp (.lst (fv ++ [V.int tv]))) := B3.sl.put
      generalize upd H' fp (.lst (fv ++ [V.int tv])) = H4 at hf4 hh4 k4 tb4 sl4
      refine ⟨ty_lst hh4, ?_⟩
      refine list_ap (SqL.of hf4) fun c n5 => ?_
      have s5 := same_new n5 (.lst (fv ++ [V.int tv]))
      refine ⟨by show 2 ≤ sizeLine; decide, fun t n6 => ?_⟩
      have s6 := same_new n6 (.tup [V.ref fp, V.ref c])
      have sA := s5.trans s6
      have hh6 := sA _ _ hh4
      have lI := I.len
      refine app_ap hh6 (by rw [List.length_map]; omega) ?_
      have cP : c ∉ Pk hl fp fv ds.length := sl4.no n5
      have tP : t ∉ Pk hl fp fv ds.length := sl4.no (s5.free n6)
      have tn : t ≠ hl := fun z => tP (z ▸ List.mem_cons_self)
      have cn : c ≠ hl := fun z => cP (z ▸ List.mem_cons_self)
      have ct6 : upd (upd H4 c (.lst (fv ++ [V.int tv]))) t (.tup [V.ref fp, V.ref c]) t = some (.tup [V.ref fp, V.ref c]) := upd_same
      have cc6 : upd (upd H4 c (.lst (fv ++ [V.int tv]))) t (.tup [V.ref fp, V.ref c]) c = some (.lst (fv ++ [V.int tv])) := s6 _ _ upd_same
      have cf6 := sA _ _ hf4
      have tb6 : Tabs T (upd (upd H4 c (.lst (fv ++ [V.int tv]))) t (.tup [V.ref fp, V.ref c])) := tb4.ext sA
      have sl6 := sl4.same sA
      have k6 : KeepS [fp, hl] H' (upd (upd H4 c (.lst (fv ++ [V.int tv]))) t (.tup [V.ref fp, V.ref c])) := k4.trans (.same sA)
      generalize upd (upd H4 c (.lst (fv ++ [V.int tv]))) t (.tup [V.ref fp, V.ref c]) = H6 at hh6 ct6 cc6 cf6 tb6 sl6 k6
      have k7 : KeepS [fp, hl] H' (upd H6 hl (.lst ((es'.map fun e => V.ref e.tp) ++ [.ref t]))) := k6.trans (.put (List.mem_cons_of_mem _ List.mem_cons_self))
      have kP : KeepS (Pk hl fp fv ds.length) H' (upd H6 hl (.lst ((es'.map fun e => V.ref e.tp) ++ [.ref t]))) := fun x o e n nt => k7 x o e (fun z => by
        rcases List.mem_cons.mp z with z | z
        · exact n (z ▸ fP)
        · exact n (by rw [List.mem_singleton.mp z]; exact List.mem_cons_self)) nt
      have o7 : ∀ x, x ≠ hl → upd H6 hl (.lst ((es'.map fun e => V.ref e.tp) ++ [.ref t])) x = H6 x := fun x n => upd_ne n
      have sub : ∀ x ∈ [hl], x ∈ Pk hl fp fv ds.length := fun x hx => by rw [List.mem_singleton.mp hx]; exact List.mem_cons_self
      refine ⟨_, _, _, es' ++ [⟨t, fp, c, fv ++ [V.int tv]⟩], rfl, (B3.keep kP (RB.Tabs.put tb6 hh6 _) sl6.put).sub sub, by rw [upd_same, List.map_append]; rfl, fun e h => ?_, by rw [List.length_append, List.length_singleton]; omega⟩
      rcases List.mem_append.mp h with h | h
      · exact ((I.ents e h).keep kP).sub sub
      · obtain rfl := List.mem_singleton.mp h
        refine ⟨by rw [o7 _ tn]; exact ct6, by rw [o7 _ nfh]; exact cf6, by rw [o7 _ cn]; exact cc6, fun z => tn (List.mem_singleton.mp z), fun z => nfh (List.mem_singleton.mp z), fun z => cn (List.mem_singleton.mp z), fun x hx => ?_⟩
        rcases List.mem_append.mp hx with hx | hx
        · rcases hkd x hx with e | e | e | ⟨q, rfl⟩
          · exact .inl e
          · exact .inr (.inl e)
          · exact .inr (.inr (.inl e))
          · obtain ⟨i, hi⟩ := List.getElem?_of_mem hx
            obtain ⟨zs, g, _⟩ := I.lsts i q hi
            refine .inr (.inr (.inr ⟨q, zs, rfl, fun z => (hd2 i q hi).2 (List.mem_singleton.mp z), k7 _ _ g (fun z => ?_) (by intro ps z; cases z)⟩))
            rcases List.mem_cons.mp z with z | z
            · exact (hd2 i q hi).1 z
            · exact (hd2 i q hi).2 (List.mem_singleton.mp z)
        · rw [List.mem_singleton.mp hx]
          exact .inr (.inl ⟨tv, rfl⟩)
  · rintro σ H1 ⟨o8, o11, o12, es, rfl, B, hh, he, hel⟩
    exact k14_13 B hh he q
end
section
variable {H : Hp} {Q : VK} {E : XK} {nx : L2.St → Hp → Prop} {a st b p al dl ul : Addr} {ns : List Int} {m : Int} {f : Rw} {rs : List Rn} {n : Nat} {o8 : Option V}
theorem k14_10 (Z : Z14 K C T H a b p dl ul al ns m f rs n) (hn : n ≤ 900) (hrl : rs.length ≤ 70) (q : ∀ H', Q (.bl true) H') :
    t_law_k14_10 K (sp_l_start K C T) (sp_l_run K) sp_l_noted sp_l_deed_by (sp_answers C T) sp_l_alike10 (sp_length C) sp_l_due14 (sp_total C CO 41) E { nx := nx, rt := Q } [some (.ref a), some (.ref st), some (.ref b), some (.ref p), some (.int m), some (.ref al), some (.ref dl), some (.ref ul), o8, none, none, none, none, none] H := by
  obtain ⟨L, ts, ds, vals, S, hL, hz⟩ := Z
  unfold t_law_k14_10
  walk_at "ev"
  refine list_ap (SqL.of S.n.d) fun dh n1 => ?_
  have s1 := same_new n1 (.lst (ts.map V.ref))
  unfold t_law_k14_11
  walk_at "ev"
  refine ⟨Nat.zero_le _, fun hl n2 => ?_⟩
  have s2 := same_new n2 (.lst [])
  refine k14_12 (ts := ts) (ds := ds) (vals := vals) (f := f) (rs := rs) (fun lp n3 => ?_) upd_same q
  have s3 := same_new n3 (.lst [V.int 0, V.int 1])
  have sA := s1.trans (s2.trans s3)
  have S' := S.same sA
  have nh : ∀ {x : Addr} {xs : List V}, H x = some (.lst xs) → x ∉ [hl] := fun {x xs} e z => by
    rw [List.mem_singleton.mp z] at e
    rw [s1.free n2] at e
    cases e
  obtain ⟨tt, gp, _⟩ := id S.runs
  have hdh : upd (upd (upd H dh (.lst (ts.map V.ref))) hl (.lst [])) lp (.lst [V.int 0, V.int 1]) dh = some (.lst (ts.map V.ref)) := s3 _ _ (s2 _ _ upd_same)
  refine ⟨S'.tab, S'.book, S'.runs, nh gp, S'.rr, S'.m1, by omega, S'.n.d, nh S.n.d, hdh, fun z => ?_, S'.n.dd, by omega, S'.n.u, nh S.n.u, S'.n.ua, fun j q e => ?_, upd_same, fun z => ?_, fun x hx => ?_⟩
  · rw [← List.mem_singleton.mp z, upd_same] at n2
    cases n2
  · obtain ⟨zs, g, _⟩ := S.n.ua.ref e
    exact nh g
  · rw [List.mem_singleton.mp z, upd_same] at n3
    cases n3
  · rw [List.mem_singleton.mp hx]
    exact ⟨_, s3 _ _ (show _ = some (HO.lst []) from upd_same)⟩
theorem k14_9 (Z : Z14 K C T H a b p dl ul al ns m f rs n) (hn : n ≤ 300) (hrl : rs.length ≤ 70) (q : ∀ H', Q (.bl true) H') :
    t_law_k14_9 K (sp_l_start K C T) (sp_l_run K) sp_l_noted sp_l_deed_by (sp_answers C T) sp_l_alike10 (sp_length C) sp_l_due14 (sp_total C CO 41) E { nx := nx, rt := Q } [some (.ref a), some (.ref st), some (.ref b), some (.ref p), some (.int m), some (.ref al), some (.ref dl), some (.ref ul), o8, none, none, none, none, none] H := by
  unfold t_law_k14_9
  walk_at "ev"
  have hS : SqL K H a (ns.map V.int) := by obtain ⟨_, _, _, _, S, _⟩ := Z; exact S.scr.sq
  refine ⟨a, ns, 2, rfl, hS, fun c c0 c1 => ?_⟩
  refine rng1_ap (by omega) (by omega) (fun k σ H' => ∃ o8 : Option V, σ = [some (.ref a), some (.ref st), some (.ref b), some (.ref p), some (.int m), some (.ref al), some (.ref dl), some (.ref ul), o8, none, none, none, none, none] ∧ Z14 K C T H' a b p dl ul al ns m f rs (n + 2 * k)) ?_ ?_ ?_
  · exact ⟨_, rfl, Z⟩
  · rintro k σ H' hk ⟨o8, rfl, Z'⟩
    unfold t_law_k14_9b0
    walk_at "ev"
    refine ⟨by show 1 ≤ sizeLine; decide, fun t n1 => ?_⟩
    refine noted_ap (d := .back) (Z'.same (same_new n1 (.tup [.str "back"]))) ⟨upd_same, trivial⟩ (by omega) fun H2 Z2 => ?_
    unfold t_law_k14_9b1
    walk_at "ev"
    refine ⟨by show 3 ≤ sizeLine; decide, fun t2 n2 => ?_⟩
    refine noted_ap (d := .ask "total" 0 m) (Z2.same (same_new n2 (.tup [.str "total", .int 0, .int m]))) ⟨upd_same, .inl rfl⟩ (by omega) fun H3 Z3 => ?_
    exact ⟨_, rfl, Z3.more (by omega)⟩
  · rintro σ H' ⟨o8, rfl, Z'⟩
    exact k14_10 Z' (by omega) hrl q
theorem k14_8 (Z : Z14 K C T H a b p dl ul al ns m f rs n) (hn : n ≤ 200) (hns : ns.length ≤ 63) (hrl : rs.length ≤ 70) (q : ∀ H', Q (.bl true) H') :
    t_law_k14_8 K (sp_l_start K C T) (sp_l_run K) sp_l_noted sp_l_deed_by (sp_answers C T) sp_l_alike10 (sp_length C) sp_l_due14 (sp_total C CO 41) E { nx := nx, rt := Q } [some (.ref a), some (.ref st), some (.ref b), some (.ref p), some (.int m), some (.ref al), some (.ref dl), some (.ref ul), o8, none, none, none, none, none] H := by
  obtain ⟨N, hR, hN31, hk⟩ := rg32_ex (L := ns.length) (by omega)
  unfold t_law_k14_8
  simp only [tSeq, tForR3_ap]
  walk_at "ev"
  have hS : SqL K H a (ns.map V.int) := by obtain ⟨_, _, _, _, S, _⟩ := Z; exact S.scr.sq
  refine nLen_ap hS ?_
  rw [List.length_map]
  walk_at "ev"
  rw [show min (ns.length : Int) 63 = (ns.length : Int) by omega]
  refine rng3_ap hR (fun k σ H' => ∃ o8 : Option V, σ = [some (.ref a), some (.ref st), some (.ref b), some (.ref p), some (.int m), some (.ref al), some (.ref dl), some (.ref ul), o8, none, none, none, none, none] ∧ Z14 K C T H' a b p dl ul al ns m f rs (n + k)) ?_ ?_ ?_
  · exact ⟨_, rfl, Z⟩
  · rintro k σ H' hkN ⟨o8, rfl, Z'⟩
    have hk' := hk k hkN
    have hS' : SqL K H' a (ns.map V.int) := by obtain ⟨_, _, _, _, S, _⟩ := Z'; exact S.scr.sq
    have nn : 0 ≤ m := by obtain ⟨_, _, _, _, S, _⟩ := Z'; exact S.book.nn
    rw [show (3 : Int) + (k : Nat) * 2 = ((3 + 2 * k : Nat) : Int) by omega]
    generalize hj : 3 + 2 * k = j at hk'
    unfold t_law_k14_8b0
    walk_at "ev"
    refine cell_ix hS' (by omega) ?_
    refine (show rIxL K (.ref a) (.int ((j + 1 : Nat) : Int)) H' _ from cell_ix hS' (by omega) ?_)
    refine Z'.top (by omega) fun p' rs' hr' hl' => ?_
    refine ⟨_, _, p', rs', m, rfl, hr', hl', nn, fun t d H2 s2 n2 hd => ?_⟩
    refine noted_ap (Z'.same s2) hd (by omega) fun H3 Z3 => ?_
    exact ⟨_, rfl, Z3⟩
  · rintro σ H' ⟨o8, rfl, Z'⟩
    exact k14_9 Z' (by omega) hrl q
theorem k14_7 (Z : Z14 K C T H a b p dl ul al ns m f rs 0) (hns : ns.length ≤ 63) (hrl : rs.length ≤ 70) (q : ∀ H', Q (.bl true) H') :
    t_law_k14_7 K (sp_l_start K C T) (sp_l_run K) sp_l_noted sp_l_deed_by (sp_answers C T) sp_l_alike10 (sp_length C) sp_l_due14 (sp_total C CO 41) E { nx := nx, rt := Q } [some (.ref a), some (.ref st), some (.ref b), some (.ref p), some (.int m), some (.ref al), some (.ref dl), some (.ref ul), none, none, none, none, none, none] H := by
  unfold t_law_k14_7
  walk_at "ev"
  have hS : SqL K H a (ns.map V.int) := by obtain ⟨_, _, _, _, S, _⟩ := Z; exact S.scr.sq
  refine ⟨a, ns, 1, rfl, hS, fun c c0 c1 => ?_⟩
  refine rng1_ap (by omega) (by omega) (fun k σ H' => ∃ o8 : Option V, σ = [some (.ref a), some (.ref st), some (.ref b), some (.ref p), some (.int m), some (.ref al), some (.ref dl), some (.ref ul), o8, none, none, none, none, none] ∧ Z14 K C T H' a b p dl ul al ns m f rs k) ?_ ?_ ?_
  · exact ⟨_, rfl, Z⟩
  · rintro k σ H' hk ⟨o8, rfl, Z'⟩
    unfold t_law_k14_7b0
    walk_at "ev"
    refine ⟨⟨by decide, by decide⟩, by decide, .inr ⟨by omega, by omega⟩, ?_⟩
    refine ⟨by show 4 ≤ sizeLine; decide, fun t n1 => ?_⟩
    refine noted_ap (d := .chg "add" (m / 2 * ((k : Int) % 2)) m ((k : Int) + 1)) (Z'.same (same_new n1 _)) ⟨upd_same, .inl rfl⟩ (by omega) fun H2 Z2 => ?_
    exact ⟨_, rfl, Z2⟩
  · rintro σ H' ⟨o8, rfl, Z'⟩
    exact k14_8 Z' (by omega) hns hrl q
end
theorem p_law_k14 (vs : List V) (H : Hp) (Q : VK) (E : XK) (h : sp_lawT K T vs H Q E) :
    t_law_k14 K (sp_l_start K C T) (sp_l_run K) sp_l_noted sp_l_deed_by (sp_answers C T) sp_l_alike10 (sp_length C) sp_l_due14 (sp_total C CO 41) E { nx := fun _ H' => Q .non H', rt := Q } (start ["_law_script", "_law_start_here", "_law_book", "_law_runs", "_law_many", "_law_ahead", "_law_deeds", "_law_due_here", "_law_k", "_law_handed", "_law_held", "_law_turn", "_law_found", "_law_pair"] vs) H := by
  obtain ⟨a, ns, rfl, hS, hn, hT, q⟩ := h
  show t_law_k14 K (sp_l_start K C T) (sp_l_run K) sp_l_noted sp_l_deed_by (sp_answers C T) sp_l_alike10 (sp_length C) sp_l_due14 (sp_total C CO 41) E _ [some (.ref a), none, none, none, none, none, none, none, none, none, none, none, none, none] H
  unfold t_law_k14
  walk_at "ev"
  refine ⟨a, ns, rfl, hS, hT, fun st b p m f rs H1 e1 T1 hst hB hR R hrl => ?_⟩
  have m1 : m ≤ 1000000000000 := by obtain ⟨t, _, _, _, h, _⟩ := hB; exact h
  have hS1 : SqL K H1 a (ns.map V.int) := RB.ExtN.seq e1 hS
  unfold t_law_k14_1
  walk_at "ev"
  refine ixT_ap (j := 0) (SqT.of hst) rfl ?_
  unfold t_law_k14_2
  walk_at "ev"
  refine ixT_ap (j := 1) (SqT.of hst) rfl ?_
  unfold t_law_k14_3
  walk_at "ev"
  refine ixT_ap (j := 2) (SqT.of hst) rfl ?_
  unfold t_law_k14_4
  walk_at "ev"
  refine ⟨by show 1 ≤ sizeLine; decide, fun al n1 => ?_⟩
  have s1 := same_new n1 (.lst [V.ref p])
  unfold t_law_k14_5
  walk_at "ev"
  refine ⟨Nat.zero_le _, fun dl n2 => ?_⟩
  have s2 := same_new n2 (.lst [])
  unfold t_law_k14_6
  walk_at "ev"
  refine ⟨Nat.zero_le _, fun ul n3 => ?_⟩
  have s3 := same_new n3 (.lst [])
  have sA := s1.trans (s2.trans s3)
  have hal2 := s2 _ _ (show upd H1 al (.lst [V.ref p]) al = some _ from upd_same)
  have hdl2 : upd (upd H1 al (.lst [V.ref p])) dl (.lst []) dl = some (.lst []) := upd_same
  have ne2 : dl ≠ al := fun z => by rw [z, upd_same] at n2; cases n2
  have ne1 : dl ≠ ul := fun z => by rw [← z] at n3; rw [hdl2] at n3; cases n3
  have ne3 : ul ≠ al := fun z => by rw [z] at n3; rw [hal2] at n3; cases n3
  obtain ⟨tt, gp, gT⟩ := id hR
  have pz : p ∉ [dl, ul, al] := fun z => by
    rcases List.mem_cons.mp z with z | z
    · rw [z] at gp
      rw [s1.free n2] at gp
      cases gp
    · rcases List.mem_cons.mp z with z | z
      · rw [z] at gp
        rw [s1.free (s2.free n3)] at gp
        cases gp
      · rw [List.mem_singleton.mp z, n1] at gp
        cases gp
  refine k14_7 (rs := rs) (f := f) ⟨70, [], [], [], ⟨?_, T1.ext sA, hB.same sA, hR.same sA, pz, R, ⟨s3 _ _ hdl2, ⟨rfl, fun k t d e => by cases e⟩, upd_same, ⟨rfl, fun k d v e => by cases e⟩, ⟨[p], s3 _ _ hal2, ⟨⟨rs, hR.same sA, R, hrl⟩, trivial⟩, fun x hx => by rw [List.mem_singleton.mp hx]; exact pz⟩, ne1, ne2, ne3, fun j q e => by cases e⟩, m1⟩, by simp, Nat.le_refl _⟩ hn hrl q
  refine Scr.sub (((((((Scr.of hS1).grow n1).same s1).grow n2).same s2).grow n3).same s3) fun x hx => ?_
  rcases List.mem_cons.mp hx with hx | hx
  · rw [hx]
    exact List.mem_cons_of_mem _ List.mem_cons_self
  · rcases List.mem_cons.mp hx with hx | hx
    · rw [hx]
      exact List.mem_cons_self
    · exact List.mem_cons_of_mem _ (List.mem_cons_of_mem _ hx)
end
end RB
namespace RB
open PySem PySem.Spec PyProof.Rows L2 LamX NdefX
def top (i : Nat) : Stmt := PySem.Challenge.pw_rangebook_k14_whole_deeds_answered.main.body.getD i (.Pass ⟨0, 0, 0, 0⟩)
abbrev st_check_stretch : Stmt := top 7
abbrev st_Tree_init : Stmt := inClass (top 9) 0
abbrev st_even_tree : Stmt := top 10
abbrev st_joined : Stmt := top 11
abbrev st_tree_of : Stmt := top 12
abbrev st_raised : Stmt := top 13
abbrev st_halves : Stmt := top 14
abbrev st_added_in : Stmt := top 15
abbrev st_filled_in : Stmt := top 16
abbrev st_changed : Stmt := top 17
abbrev st_total_in : Stmt := top 18
abbrev st_least_in : Stmt := top 19
abbrev st_first_in : Stmt := top 20
abbrev st_numbers_in : Stmt := top 21
abbrev st_changed_in : Stmt := top 22
abbrev st_total : Stmt := top 24
abbrev st_least : Stmt := top 25
abbrev st_place : Stmt := top 26
abbrev st_first : Stmt := top 27
abbrev st_added : Stmt := top 29
abbrev st_filled : Stmt := top 30
abbrev st_made : Stmt := top 35
abbrev st_even : Stmt := top 36
abbrev st_length : Stmt := top 37
abbrev st_listed : Stmt := top 38
abbrev st_answers : Stmt := top 40
abbrev st_answer : Stmt := top 41
abbrev st_done : Stmt := top 42
abbrev st_go_back : Stmt := top 43
abbrev st_told : Stmt := top 44
abbrev st_l_whole : Stmt := top 46
abbrev st_l_cell_at : Stmt := top 47
abbrev st_l_number_by : Stmt := top 48
abbrev st_l_cut : Stmt := top 49
abbrev st_l_changed11 : Stmt := top 50
abbrev st_l_within : Stmt := top 51
abbrev st_l_due11 : Stmt := top 52
abbrev st_l_first11 : Stmt := top 53
abbrev st_l_alike10 : Stmt := top 54
abbrev st_l_end_by14 : Stmt := top 55
abbrev st_l_answer : Stmt := top 56
abbrev st_l_deed_by : Stmt := top 57
abbrev st_l_made : Stmt := top 58
abbrev st_l_run : Stmt := top 59
abbrev st_l_noted : Stmt := top 60
abbrev st_l_start : Stmt := top 61
abbrev st_law_k14 : Stmt := top 62
theorem sc_check_stretch : FnScope ["book", "low", "high"] ["book", "low", "high"] (defScope st_check_stretch) := ⟨rfl, rfl, rfl, by decide +kernel, rfl, by decide +kernel, by decide +kernel⟩
theorem d_check_stretch {P : Program} {w : World} {K : PySem.W.Frag} {mg : Str → Option Value} {base : Heap} {k : Nat} {C_OutOfRow : Addr}
    (x_OutOfRow : ExcAt K mg "OutOfRow" C_OutOfRow)
    (f : Addr) (cdv : Value) (A : Around) (outer : List Env) (s : Shared) (H : Hp) (E : XK) (hr : Room k (A.deeper (envOfC "check_stretch" (defScope st_check_stretch) s.heap.objs.size f cdv))) :
    PSs (cxOf (L2.CX P w) P w K mg base ["book", "low", "high"] "check_stretch" (defScope st_check_stretch) f cdv A outer s H E) (defBody st_check_stretch) (t_check_stretch K C_OutOfRow E) :=
  (pss_one (ps_if (pt_not (pt_chain3 oLe oLe oLe pe_int (pv 1) (pv 2) (pe_fld (pv 0) rfl))) (pss_one (ps_raiseC x_OutOfRow rfl)) pss_nil))
theorem sc_Tree_init : FnScope ["self", "many", "total", "least", "more", "left", "right"] ["self", "many", "total", "least", "more", "left", "right"] (defScope st_Tree_init) := ⟨rfl, rfl, rfl, by decide +kernel, rfl, by decide +kernel, by decide +kernel⟩
theorem d_Tree_init {P : Program} {w : World} {K : PySem.W.Frag} {mg : Str → Option Value} {base : Heap} {k : Nat} 
    
    (f : Addr) (cdv : Value) (A : Around) (outer : List Env) (s : Shared) (H : Hp) (E : XK) (hr : Room k (A.deeper (envOfC "Tree.__init__" (defScope st_Tree_init) s.heap.objs.size f cdv))) :
    PSs (cxOf (L2.CX P w) P w K mg base ["self", "many", "total", "least", "more", "left", "right"] "Tree.__init__" (defScope st_Tree_init) f cdv A outer s H E) (defBody st_Tree_init) (t_Tree_init K E) :=
  (pss_cons (ps_fld (pv 0) (pv 1) rfl)
    (pss_cons (ps_fld (pv 0) (pv 2) rfl)
    (pss_cons (ps_fld (pv 0) (pv 3) rfl)
    (pss_cons (ps_fld (pv 0) (pv 4) rfl)
    (pss_cons (ps_fld (pv 0) (pv 5) rfl)
    (pss_one (ps_fld (pv 0) (pv 6) rfl)))))))
theorem sc_even_tree : FnScope ["many", "number"] ["many", "number"] (defScope st_even_tree) := ⟨rfl, rfl, rfl, by decide +kernel, rfl, by decide +kernel, by decide +kernel⟩
theorem d_even_tree {P : Program} {w : World} {K : PySem.W.Frag} {mg : Str → Option Value} {base : Heap} {k : Nat} {C_Tree : Addr} {s_Tree : Sp}
    {k_Tree : Nat} (m_Tree : CalMk P w K mg base k_Tree "Tree" C_Tree ["self", "many", "total", "least", "more", "left", "right"] s_Tree) (h_Tree : k_Tree + 1 ≤ k)
    (f : Addr) (cdv : Value) (A : Around) (outer : List Env) (s : Shared) (H : Hp) (E : XK) (hr : Room k (A.deeper (envOfC "even_tree" (defScope st_even_tree) s.heap.objs.size f cdv))) :
    PSs (cxOf (L2.CX P w) P w K mg base ["many", "number"] "even_tree" (defScope st_even_tree) f cdv A outer s H E) (defBody st_even_tree) (t_even_tree C_Tree s_Tree E) :=
  (pss_one (ps_ret (pe_makeC m_Tree hr (by omega) rfl pass_own (pa_cons (pv 0) (pa_cons (pe_op oMul (pv 0) (pv 1)) (pa_cons (pv 1) (pa_cons pe_int (pa_cons pe_non (pa_cons pe_non pa_nil)))))))))
theorem sc_joined : FnScope ["left", "right", "more", "many", "total"] ["left", "right", "more"] (defScope st_joined) := ⟨rfl, rfl, rfl, by decide +kernel, rfl, by decide +kernel, by decide +kernel⟩
theorem d_joined {P : Program} {w : World} {K : PySem.W.Frag} {mg : Str → Option Value} {base : Heap} {k : Nat} {C_Tree : Addr} {s_Tree : Sp}
    {k_Tree : Nat} (m_Tree : CalMk P w K mg base k_Tree "Tree" C_Tree ["self", "many", "total", "least", "more", "left", "right"] s_Tree) (h_Tree : k_Tree + 1 ≤ k) (z_min : mg "min" = none)
    (f : Addr) (cdv : Value) (A : Around) (outer : List Env) (s : Shared) (H : Hp) (E : XK) (hr : Room k (A.deeper (envOfC "joined" (defScope st_joined) s.heap.objs.size f cdv))) :
    PSs (cxOf (L2.CX P w) P w K mg base ["left", "right", "more", "many", "total"] "joined" (defScope st_joined) f cdv A outer s H E) (defBody st_joined) (t_joined K C_Tree s_Tree E) :=
  (pss_cons (ps_set (i := 3) sc_joined.nd rfl (Or.inl rfl) (pe_op oAdd (pe_fld (pv 0) rfl) (pe_fld (pv 1) rfl)))
    (pss_cons (ps_set (i := 4) sc_joined.nd rfl (Or.inl rfl) (pe_op oAdd (pe_op oAdd (pe_fld (pv 0) rfl) (pe_fld (pv 1) rfl)) (pe_op oMul (pv 3) (pv 2))))
    (pss_one (ps_ret (pe_makeC m_Tree hr (by omega) rfl pass_own (pa_cons (pv 3) (pa_cons (pv 4) (pa_cons (pe_op oAdd (pe_callB (cMin rfl) rfl z_min (by decide +kernel) (pa_cons (pe_fld (pv 0) rfl) (pa_cons (pe_fld (pv 1) rfl) pa_nil))) (pv 2)) (pa_cons (pv 2) (pa_cons (pv 0) (pa_cons (pv 1) pa_nil)))))))))))
theorem sc_tree_of : FnScope ["numbers", "half"] ["numbers"] (defScope st_tree_of) := ⟨rfl, rfl, rfl, by decide +kernel, rfl, by decide +kernel, by decide +kernel⟩
theorem d_tree_of {P : Program} {w : World} {K : PySem.W.Frag} {mg : Str → Option Value} {base : Heap} {k : Nat} {s_even_tree : Sp} {s_tree_of : Sp} {s_joined : Sp}
    {k_even_tree : Nat} (c_even_tree : Cal P w K mg base k_even_tree "even_tree" ["many", "number"] s_even_tree) (h_even_tree : k_even_tree ≤ k) {k_tree_of : Nat} (c_tree_of : Cal P w K mg base k_tree_of "tree_of" ["numbers"] s_tree_of) (h_tree_of : k_tree_of ≤ k) {k_joined : Nat} (c_joined : Cal P w K mg base k_joined "joined" ["left", "right", "more"] s_joined) (h_joined : k_joined ≤ k) (z_len : mg "len" = none)
    (f : Addr) (cdv : Value) (A : Around) (outer : List Env) (s : Shared) (H : Hp) (E : XK) (hr : Room k (A.deeper (envOfC "tree_of" (defScope st_tree_of) s.heap.objs.size f cdv))) :
    PSs (cxOf (L2.CX P w) P w K mg base ["numbers", "half"] "tree_of" (defScope st_tree_of) f cdv A outer s H E) (defBody st_tree_of) (t_tree_of K s_even_tree s_tree_of s_joined E) :=
  (pss_cons (ps_if (pt_not (pt_truth (pv 0) (fun _ => rfl))) (pss_one (ps_ret (pe_callC c_even_tree hr (by omega) rfl pass_own (pa_cons pe_int (pa_cons pe_int pa_nil))))) pss_nil)
    (pss_cons (ps_if (pt_cmpR op_eq (pe_callB cLen rfl z_len boot_len (pa_cons (pv 0) pa_nil)) pe_int (nomark _)) (pss_one (ps_ret (pe_callC c_even_tree hr (by omega) rfl pass_own (pa_cons pe_int (pa_cons (pe_ix ix_list (pv 0) pe_int (fun _ _ => rfl)) pa_nil))))) pss_nil)
    (pss_cons (ps_set (i := 1) sc_tree_of.nd rfl (Or.inl rfl) (pe_op oDiv (pe_callB cLen rfl z_len boot_len (pa_cons (pv 0) pa_nil)) pe_int))
    (pss_one (ps_ret (pe_callC c_joined hr (by omega) rfl pass_own (pa_cons (pe_callC c_tree_of hr (by omega) rfl pass_own (pa_cons (pe_slice sl_list (pv 0) po_none (po_some (pv 1))) pa_nil)) (pa_cons (pe_callC c_tree_of hr (by omega) rfl pass_own (pa_cons (pe_slice sl_list (pv 0) (po_some (pv 1)) po_none) pa_nil)) (pa_cons pe_int pa_nil)))))))))
theorem sc_raised : FnScope ["tree", "by"] ["tree", "by"] (defScope st_raised) := ⟨rfl, rfl, rfl, by decide +kernel, rfl, by decide +kernel, by decide +kernel⟩
theorem d_raised {P : Program} {w : World} {K : PySem.W.Frag} {mg : Str → Option Value} {base : Heap} {k : Nat} {s_even_tree : Sp} {s_joined : Sp}
    {k_even_tree : Nat} (c_even_tree : Cal P w K mg base k_even_tree "even_tree" ["many", "number"] s_even_tree) (h_even_tree : k_even_tree ≤ k) {k_joined : Nat} (c_joined : Cal P w K mg base k_joined "joined" ["left", "right", "more"] s_joined) (h_joined : k_joined ≤ k)
    (f : Addr) (cdv : Value) (A : Around) (outer : List Env) (s : Shared) (H : Hp) (E : XK) (hr : Room k (A.deeper (envOfC "raised" (defScope st_raised) s.heap.objs.size f cdv))) :
    PSs (cxOf (L2.CX P w) P w K mg base ["tree", "by"] "raised" (defScope st_raised) f cdv A outer s H E) (defBody st_raised) (t_raised K s_even_tree s_joined E) :=
  (pss_cons (ps_if (pt_cmpR oIs (pe_fld (pv 0) rfl) pe_non (nomark _)) (pss_one (ps_ret (pe_callC c_even_tree hr (by omega) rfl pass_own (pa_cons (pe_fld (pv 0) rfl) (pa_cons (pe_op oAdd (pe_fld (pv 0) rfl) (pv 1)) pa_nil))))) pss_nil)
    (pss_one (ps_ret (pe_callC c_joined hr (by omega) rfl pass_own (pa_cons (pe_fld (pv 0) rfl) (pa_cons (pe_fld (pv 0) rfl) (pa_cons (pe_op oAdd (pe_fld (pv 0) rfl) (pv 1)) pa_nil)))))))
theorem sc_halves : FnScope ["tree", "half"] ["tree"] (defScope st_halves) := ⟨rfl, rfl, rfl, by decide +kernel, rfl, by decide +kernel, by decide +kernel⟩
theorem d_halves {P : Program} {w : World} {K : PySem.W.Frag} {mg : Str → Option Value} {base : Heap} {k : Nat} {s_even_tree : Sp}
    {k_even_tree : Nat} (c_even_tree : Cal P w K mg base k_even_tree "even_tree" ["many", "number"] s_even_tree) (h_even_tree : k_even_tree ≤ k)
    (f : Addr) (cdv : Value) (A : Around) (outer : List Env) (s : Shared) (H : Hp) (E : XK) (hr : Room k (A.deeper (envOfC "halves" (defScope st_halves) s.heap.objs.size f cdv))) :
    PSs (cxOf (L2.CX P w) P w K mg base ["tree", "half"] "halves" (defScope st_halves) f cdv A outer s H E) (defBody st_halves) (t_halves K s_even_tree E) :=
  (pss_cons (ps_if (pt_cmpR oIsNot (pe_fld (pv 0) rfl) pe_non (nomark _)) (pss_one (ps_ret (pe_tup (pa_cons (pe_fld (pv 0) rfl) (pa_cons (pe_fld (pv 0) rfl) pa_nil))))) pss_nil)
    (pss_cons (ps_set (i := 1) sc_halves.nd rfl (Or.inl rfl) (pe_op oDiv (pe_fld (pv 0) rfl) pe_int))
    (pss_one (ps_ret (pe_tup (pa_cons (pe_callC c_even_tree hr (by omega) rfl pass_own (pa_cons (pv 1) (pa_cons (pe_fld (pv 0) rfl) pa_nil))) (pa_cons (pe_callC c_even_tree hr (by omega) rfl pass_own (pa_cons (pe_op oSub (pe_fld (pv 0) rfl) (pv 1)) (pa_cons (pe_fld (pv 0) rfl) pa_nil))) pa_nil)))))))
theorem sc_added_in : FnScope ["tree", "low", "high", "by"] ["tree", "low", "high", "by"] (defScope st_added_in) := ⟨rfl, rfl, rfl, by decide +kernel, rfl, by decide +kernel, by decide +kernel⟩
abbrev la_added_in : Expr := lamOf (defBody st_added_in)
abbrev q_added_in : Str := "added_in.<locals>.<lambda>"
theorem lf_added_in : ∀ y ∈ (lamSc la_added_in).names, y.2 = .free → (defScope st_added_in).names.lookup y.1 = some .cell ∨ (defScope st_added_in).names.lookup y.1 = some .free := by decide +kernel
theorem ns_lam_added_in : NScope ["part", "above", "by"] ["part", "above"] ["by"] (lamSc la_added_in) := nscope_by (by decide +kernel)
theorem d_lam_added_in {P : Program} {w : World} {K : PySem.W.Frag} {mg : Str → Option Value} {base : Heap} {k : Nat} {s_raised : Sp}
    {k_raised : Nat} (c_raised : Cal P w K mg base k_raised "raised" ["tree", "by"] s_raised) (h_raised : k_raised ≤ k)
    (f : Addr) (cl : List (Str × Addr)) (c : Addr) (A : Around) (outer : List Env) (s : Shared) (H : Hp) (E : XK) (hr : Room k (A.deeper (envF (LF.nf ⟨q_added_in, la_added_in, cl, c⟩) f s.heap.objs.size))) :
    PE (ncx (L2.CX P w) P w K mg base ["part", "above", "by"] (LF.nf ⟨q_added_in, la_added_in, cl, c⟩) f A outer s H E) (lamE la_added_in) (t_lam_added_in s_raised E) :=
  (pe_callC c_raised hr (by omega) rfl pass_lam (pa_cons (pv 0) (pa_cons (pv 2) pa_nil)))
theorem d_added_in {P : Program} {w : World} {K : PySem.W.Frag} {mg : Str → Option Value} {base : Heap} {k : Nat} {T_ : List (Addr × Str)} {s_changed : Addr → LF → List (Option V) → Sp}
    {k_changed : Nat} (c_changed : ∀ (f : Addr) (F : LF) (ws : List (Option V)), F.Is q_added_in la_added_in → CalG P w K mg base k_changed "changed" ["tree", "low", "high", "change"] (GL f F ["by"] ws) (s_changed f F ws)) (h_changed : k_changed ≤ k) {ca_ Pt_ : Addr} (TB : TabB base mg ca_ Pt_) (hm : (Pt_, q_added_in) ∈ T_) (hu : ∀ p ∈ T_, p.1 = Pt_ → p.2 = q_added_in)
    (f : Addr) (A : Around) (outer : List Env) (s : Shared) (H : Hp) (E : XK) (hr : Room k (A.deeper (envOfC "added_in" (defScope st_added_in) s.heap.objs.size f (.ref ca_)))) :
    PSs (cxOf (L2.CX P w) P w K mg base ["tree", "low", "high", "by"] "added_in" (defScope st_added_in) f (.ref ca_) A outer s H E) (defBody st_added_in) (t_added_in T_ q_added_in la_added_in s_changed E) :=
  (pss_one (ps_ret (pe_lamcall3 (l := la_added_in) (q := q_added_in) (js := [3]) (fr := ["by"]) c_changed hr (by omega) rfl pass_own (fun _ => rfl) (pv 0) (pv 1) (pv 2) rfl TB rfl rfl hm hu rfl lf_added_in (by decide +kernel) rfl)))
theorem sc_filled_in : FnScope ["tree", "low", "high", "number"] ["tree", "low", "high", "number"] (defScope st_filled_in) := ⟨rfl, rfl, rfl, by decide +kernel, rfl, by decide +kernel, by decide +kernel⟩
abbrev la_filled_in : Expr := lamOf (defBody st_filled_in)
abbrev q_filled_in : Str := "filled_in.<locals>.<lambda>"
theorem lf_filled_in : ∀ y ∈ (lamSc la_filled_in).names, y.2 = .free → (defScope st_filled_in).names.lookup y.1 = some .cell ∨ (defScope st_filled_in).names.lookup y.1 = some .free := by decide +kernel
theorem ns_lam_filled_in : NScope ["part", "above", "number"] ["part", "above"] ["number"] (lamSc la_filled_in) := nscope_by (by decide +kernel)
theorem d_lam_filled_in {P : Program} {w : World} {K : PySem.W.Frag} {mg : Str → Option Value} {base : Heap} {k : Nat} {s_even_tree : Sp}
    {k_even_tree : Nat} (c_even_tree : Cal P w K mg base k_even_tree "even_tree" ["many", "number"] s_even_tree) (h_even_tree : k_even_tree ≤ k)
    (f : Addr) (cl : List (Str × Addr)) (c : Addr) (A : Around) (outer : List Env) (s : Shared) (H : Hp) (E : XK) (hr : Room k (A.deeper (envF (LF.nf ⟨q_filled_in, la_filled_in, cl, c⟩) f s.heap.objs.size))) :
    PE (ncx (L2.CX P w) P w K mg base ["part", "above", "number"] (LF.nf ⟨q_filled_in, la_filled_in, cl, c⟩) f A outer s H E) (lamE la_filled_in) (t_lam_filled_in K s_even_tree E) :=
  (pe_callC c_even_tree hr (by omega) rfl pass_lam (pa_cons (pe_fld (pv 0) rfl) (pa_cons (pe_op oSub (pv 2) (pv 1)) pa_nil)))
theorem d_filled_in {P : Program} {w : World} {K : PySem.W.Frag} {mg : Str → Option Value} {base : Heap} {k : Nat} {T_ : List (Addr × Str)} {s_changed : Addr → LF → List (Option V) → Sp}
    {k_changed : Nat} (c_changed : ∀ (f : Addr) (F : LF) (ws : List (Option V)), F.Is q_filled_in la_filled_in → CalG P w K mg base k_changed "changed" ["tree", "low", "high", "change"] (GL f F ["number"] ws) (s_changed f F ws)) (h_changed : k_changed ≤ k) {ca_ Pt_ : Addr} (TB : TabB base mg ca_ Pt_) (hm : (Pt_, q_filled_in) ∈ T_) (hu : ∀ p ∈ T_, p.1 = Pt_ → p.2 = q_filled_in)
    (f : Addr) (A : Around) (outer : List Env) (s : Shared) (H : Hp) (E : XK) (hr : Room k (A.deeper (envOfC "filled_in" (defScope st_filled_in) s.heap.objs.size f (.ref ca_)))) :
    PSs (cxOf (L2.CX P w) P w K mg base ["tree", "low", "high", "number"] "filled_in" (defScope st_filled_in) f (.ref ca_) A outer s H E) (defBody st_filled_in) (t_filled_in T_ q_filled_in la_filled_in s_changed E) :=
  (pss_one (ps_ret (pe_lamcall3 (l := la_filled_in) (q := q_filled_in) (js := [3]) (fr := ["number"]) c_changed hr (by omega) rfl pass_own (fun _ => rfl) (pv 0) (pv 1) (pv 2) rfl TB rfl rfl hm hu rfl lf_filled_in (by decide +kernel) rfl)))
theorem sc_changed : FnScope ["tree", "low", "high", "change"] ["tree", "low", "high", "change"] (defScope st_changed) := ⟨rfl, rfl, rfl, by decide +kernel, rfl, by decide +kernel, by decide +kernel⟩
theorem d_changed {P : Program} {w : World} {K : PySem.W.Frag} {mg : Str → Option Value} {base : Heap} {k : Nat} {f_ : Addr} {F_ : LF} {fr_ : List Str} {ws_ : List (Option V)} {s_raised : Sp} {s_changed_in : Sp}
    {k_raised : Nat} (c_raised : Cal P w K mg base k_raised "raised" ["tree", "by"] s_raised) (h_raised : k_raised ≤ k) {k_changed_in : Nat} (c_changed_in : CalG P w K mg base k_changed_in "changed_in" ["tree", "low", "high", "above", "change"] (GL f_ F_ fr_ ws_) s_changed_in) (h_changed_in : k_changed_in ≤ k)
    (f : Addr) (cdv : Value) (A : Around) (outer : List Env) (s : Shared) (H : Hp) (E : XK) (hG : GL f_ F_ fr_ ws_ outer s H) (hr : Room k (A.deeper (envOfC "changed" (defScope st_changed) s.heap.objs.size f cdv))) :
    PSs (cxOf (L2.CX P w) P w K mg base ["tree", "low", "high", "change"] "changed" (defScope st_changed) f cdv A outer s H E) (defBody st_changed) (t_changed s_raised s_changed_in E) :=
  (pss_cons (ps_if (pt_cmpR op_eq (pv 1) (pv 2) (nomark _)) (pss_one (ps_ret (pe_callC c_raised hr (by omega) rfl pass_own (pa_cons (pv 0) (pa_cons pe_int pa_nil))))) pss_nil)
    (pss_one (ps_ret (pe_callG c_changed_in hr (by omega) (fun _ _ _ _ I => hG.later I) rfl pass_own (pa_cons (pv 0) (pa_cons (pv 1) (pa_cons (pv 2) (pa_cons pe_int (pa_cons (pv 3) pa_nil)))))))))
theorem sc_total_in : FnScope ["tree", "low", "high", "half", "ahead", "behind"] ["tree", "low", "high"] (defScope st_total_in) := ⟨rfl, rfl, rfl, by decide +kernel, rfl, by decide +kernel, by decide +kernel⟩
theorem d_total_in {P : Program} {w : World} {K : PySem.W.Frag} {mg : Str → Option Value} {base : Heap} {k : Nat} {s_total_in : Sp}
    {k_total_in : Nat} (c_total_in : Cal P w K mg base k_total_in "total_in" ["tree", "low", "high"] s_total_in) (h_total_in : k_total_in ≤ k) (z_max : mg "max" = none) (z_min : mg "min" = none)
    (f : Addr) (cdv : Value) (A : Around) (outer : List Env) (s : Shared) (H : Hp) (E : XK) (hr : Room k (A.deeper (envOfC "total_in" (defScope st_total_in) s.heap.objs.size f cdv))) :
    PSs (cxOf (L2.CX P w) P w K mg base ["tree", "low", "high", "half", "ahead", "behind"] "total_in" (defScope st_total_in) f cdv A outer s H E) (defBody st_total_in) (t_total_in K s_total_in E) :=
  (pss_cons (ps_set (i := 1) sc_total_in.nd rfl (Or.inl rfl) (pe_callB (cMax rfl) rfl z_max (by decide +kernel) (pa_cons (pv 1) (pa_cons pe_int pa_nil))))
    (pss_cons (ps_set (i := 2) sc_total_in.nd rfl (Or.inl rfl) (pe_callB (cMin rfl) rfl z_min (by decide +kernel) (pa_cons (pv 2) (pa_cons (pe_fld (pv 0) rfl) pa_nil))))
    (pss_cons (ps_if (pt_cmpR oGe (pv 1) (pv 2) (nomark _)) (pss_one (ps_ret pe_int)) pss_nil)
    (pss_cons (ps_if (pt_cmpR op_eq (pe_op oSub (pv 2) (pv 1)) (pe_fld (pv 0) rfl) (nomark _)) (pss_one (ps_ret (pe_fld (pv 0) rfl))) pss_nil)
    (pss_cons (ps_if (pt_cmpR oIs (pe_fld (pv 0) rfl) pe_non (nomark _)) (pss_one (ps_ret (pe_op oMul (pe_op oSub (pv 2) (pv 1)) (pe_fld (pv 0) rfl)))) pss_nil)
    (pss_cons (ps_set (i := 3) sc_total_in.nd rfl (Or.inl rfl) (pe_fld (pe_fld (pv 0) rfl) rfl))
    (pss_cons (ps_set (i := 4) sc_total_in.nd rfl (Or.inl rfl) (pe_callC c_total_in hr (by omega) rfl pass_own (pa_cons (pe_fld (pv 0) rfl) (pa_cons (pv 1) (pa_cons (pv 2) pa_nil)))))
    (pss_cons (ps_set (i := 5) sc_total_in.nd rfl (Or.inl rfl) (pe_callC c_total_in hr (by omega) rfl pass_own (pa_cons (pe_fld (pv 0) rfl) (pa_cons (pe_op oSub (pv 1) (pv 3)) (pa_cons (pe_op oSub (pv 2) (pv 3)) pa_nil)))))
    (pss_one (ps_ret (pe_op oAdd (pe_op oAdd (pv 4) (pv 5)) (pe_op oMul (pe_op oSub (pv 2) (pv 1)) (pe_fld (pv 0) rfl)))))))))))))
theorem sc_least_in : FnScope ["tree", "low", "high", "half", "ahead", "behind", "number"] ["tree", "low", "high"] (defScope st_least_in) := ⟨rfl, rfl, rfl, by decide +kernel, rfl, by decide +kernel, by decide +kernel⟩
theorem d_least_in {P : Program} {w : World} {K : PySem.W.Frag} {mg : Str → Option Value} {base : Heap} {k : Nat} {s_least_in : Sp}
    {k_least_in : Nat} (c_least_in : Cal P w K mg base k_least_in "least_in" ["tree", "low", "high"] s_least_in) (h_least_in : k_least_in ≤ k) (z_max : mg "max" = none) (z_min : mg "min" = none)
    (f : Addr) (cdv : Value) (A : Around) (outer : List Env) (s : Shared) (H : Hp) (E : XK) (hr : Room k (A.deeper (envOfC "least_in" (defScope st_least_in) s.heap.objs.size f cdv))) :
    PSs (cxOf (L2.CX P w) P w K mg base ["tree", "low", "high", "half", "ahead", "behind", "number"] "least_in" (defScope st_least_in) f cdv A outer s H E) (defBody st_least_in) (t_least_in K s_least_in E) :=
  (pss_cons (ps_set (i := 1) sc_least_in.nd rfl (Or.inl rfl) (pe_callB (cMax rfl) rfl z_max (by decide +kernel) (pa_cons (pv 1) (pa_cons pe_int pa_nil))))
    (pss_cons (ps_set (i := 2) sc_least_in.nd rfl (Or.inl rfl) (pe_callB (cMin rfl) rfl z_min (by decide +kernel) (pa_cons (pv 2) (pa_cons (pe_fld (pv 0) rfl) pa_nil))))
    (pss_cons (ps_if (pt_cmpR oGe (pv 1) (pv 2) (nomark _)) (pss_one (ps_ret pe_non)) pss_nil)
    (pss_cons (ps_if (PW.pt (pw_or (pt_cmpR oIs (pe_fld (pv 0) rfl) pe_non (nomark _)) (pw_or1 (pt_cmpR op_eq (pe_op oSub (pv 2) (pv 1)) (pe_fld (pv 0) rfl) (nomark _))))) (pss_one (ps_ret (pe_fld (pv 0) rfl))) pss_nil)
    (pss_cons (ps_set (i := 3) sc_least_in.nd rfl (Or.inl rfl) (pe_fld (pe_fld (pv 0) rfl) rfl))
    (pss_cons (ps_set (i := 4) sc_least_in.nd rfl (Or.inl rfl) (pe_callC c_least_in hr (by omega) rfl pass_own (pa_cons (pe_fld (pv 0) rfl) (pa_cons (pv 1) (pa_cons (pv 2) pa_nil)))))
    (pss_cons (ps_set (i := 5) sc_least_in.nd rfl (Or.inl rfl) (pe_callC c_least_in hr (by omega) rfl pass_own (pa_cons (pe_fld (pv 0) rfl) (pa_cons (pe_op oSub (pv 1) (pv 3)) (pa_cons (pe_op oSub (pv 2) (pv 3)) pa_nil)))))
    (pss_one (ps_ret (pe_op oAdd (pe_callB (cr_min rfl) rfl z_min (by decide +kernel) (pa_cons (pe_lc (own := [("number", 6)]) (g := gName 6) (tt := (tTest (tOp nIsNot (tVar 6) (tC .non)))) (te := (tVar 6)) rfl sc_least_in.nd (pi_tup (pe_tup (pa_cons (pv 4) (pa_cons (pv 5) pa_nil)))) (blkOk_by (own := [("number", 6)]) (N := ["tree", "low", "high", "half", "ahead", "behind", "number"]) (sc := defScope st_least_in) (by decide +kernel)) (fun _ _ _ _ _ => pg_name (i := 6) sc_least_in.nd rfl (Or.inl rfl)) (fun _ _ _ _ _ => (pts_one (pt_cmpR oIsNot (pv 6) pe_non (nomark _)))) (fun _ _ _ _ _ => (pv 6))) pa_nil)) (pe_fld (pv 0) rfl)))))))))))
theorem sc_first_in : FnScope ["tree", "low", "bound", "at", "half"] ["tree", "low", "bound"] (defScope st_first_in) := ⟨rfl, rfl, rfl, by decide +kernel, rfl, by decide +kernel, by decide +kernel⟩
theorem d_first_in {P : Program} {w : World} {K : PySem.W.Frag} {mg : Str → Option Value} {base : Heap} {k : Nat} {s_first_in : Sp}
    {k_first_in : Nat} (c_first_in : Cal P w K mg base k_first_in "first_in" ["tree", "low", "bound"] s_first_in) (h_first_in : k_first_in ≤ k) (z_max : mg "max" = none)
    (f : Addr) (cdv : Value) (A : Around) (outer : List Env) (s : Shared) (H : Hp) (E : XK) (hr : Room k (A.deeper (envOfC "first_in" (defScope st_first_in) s.heap.objs.size f cdv))) :
    PSs (cxOf (L2.CX P w) P w K mg base ["tree", "low", "bound", "at", "half"] "first_in" (defScope st_first_in) f cdv A outer s H E) (defBody st_first_in) (t_first_in K s_first_in E) :=
  (pss_cons (ps_if (PW.pt (pw_or (pt_cmpR oGe (pv 1) (pe_fld (pv 0) rfl) (nomark _)) (pw_or1 (pt_cmpR oGt (pe_fld (pv 0) rfl) (pv 2) (nomark _))))) (pss_one (ps_ret pe_non)) pss_nil)
    (pss_cons (ps_if (pt_cmpR oIs (pe_fld (pv 0) rfl) pe_non (nomark _)) (pss_one (ps_ret (pe_callB (cMax rfl) rfl z_max (by decide +kernel) (pa_cons (pv 1) (pa_cons pe_int pa_nil))))) pss_nil)
    (pss_cons (ps_set (i := 3) sc_first_in.nd rfl (Or.inl rfl) (pe_callC c_first_in hr (by omega) rfl pass_own (pa_cons (pe_fld (pv 0) rfl) (pa_cons (pv 1) (pa_cons (pe_op oSub (pv 2) (pe_fld (pv 0) rfl)) pa_nil)))))
    (pss_cons (ps_if (pt_cmpR oIsNot (pv 3) pe_non (nomark _)) (pss_one (ps_ret (pv 3))) pss_nil)
    (pss_cons (ps_set (i := 4) sc_first_in.nd rfl (Or.inl rfl) (pe_fld (pe_fld (pv 0) rfl) rfl))
    (pss_cons (ps_set (i := 3) sc_first_in.nd rfl (Or.inl rfl) (pe_callC c_first_in hr (by omega) rfl pass_own (pa_cons (pe_fld (pv 0) rfl) (pa_cons (pe_op oSub (pv 1) (pv 4)) (pa_cons (pe_op oSub (pv 2) (pe_fld (pv 0) rfl)) pa_nil)))))
    (pss_one (ps_ret (pe_ifExp (pt_cmpR oIs (pv 3) pe_non (nomark _)) pe_non (pe_op oAdd (pv 4) (pv 3)))))))))))
theorem sc_numbers_in : FnScope ["tree", "low", "high", "above", "half", "ahead", "behind"] ["tree", "low", "high", "above"] (defScope st_numbers_in) := ⟨rfl, rfl, rfl, by decide +kernel, rfl, by decide +kernel, by decide +kernel⟩
theorem d_numbers_in {P : Program} {w : World} {K : PySem.W.Frag} {mg : Str → Option Value} {base : Heap} {k : Nat} {s_numbers_in : Sp}
    {k_numbers_in : Nat} (c_numbers_in : CalD P w K mg base k_numbers_in "numbers_in" ["tree", "low", "high", "above"] [.int 0] s_numbers_in) (h_numbers_in : k_numbers_in ≤ k) (z_max : mg "max" = none) (z_min : mg "min" = none)
    (f : Addr) (cdv : Value) (A : Around) (outer : List Env) (s : Shared) (H : Hp) (E : XK) (hr : Room k (A.deeper (envOfC "numbers_in" (defScope st_numbers_in) s.heap.objs.size f cdv))) :
    PSs (cxOf (L2.CX P w) P w K mg base ["tree", "low", "high", "above", "half", "ahead", "behind"] "numbers_in" (defScope st_numbers_in) f cdv A outer s H E) (defBody st_numbers_in) (t_numbers_in K s_numbers_in E) :=
  (pss_cons (ps_set (i := 1) sc_numbers_in.nd rfl (Or.inl rfl) (pe_callB (cMax rfl) rfl z_max (by decide +kernel) (pa_cons (pv 1) (pa_cons pe_int pa_nil))))
    (pss_cons (ps_set (i := 2) sc_numbers_in.nd rfl (Or.inl rfl) (pe_callB (cMin rfl) rfl z_min (by decide +kernel) (pa_cons (pv 2) (pa_cons (pe_fld (pv 0) rfl) pa_nil))))
    (pss_cons (ps_if (pt_cmpR oGe (pv 1) (pv 2) (nomark _)) (pss_one (ps_ret (pe_lst pa_nil))) pss_nil)
    (pss_cons (ps_if (pt_cmpR oIs (pe_fld (pv 0) rfl) pe_non (nomark _)) (pss_one (ps_ret (pe_op op_rep (pe_lst (pa_cons (pe_op oAdd (pe_fld (pv 0) rfl) (pv 3)) pa_nil)) (pe_op oSub (pv 2) (pv 1))))) pss_nil)
    (pss_cons (ps_set (i := 4) sc_numbers_in.nd rfl (Or.inl rfl) (pe_fld (pe_fld (pv 0) rfl) rfl))
    (pss_cons (ps_set (i := 5) sc_numbers_in.nd rfl (Or.inl rfl) (pe_callC c_numbers_in.cal hr (by omega) rfl pass_own (pa_cons (pe_fld (pv 0) rfl) (pa_cons (pv 1) (pa_cons (pv 2) (pa_cons (pe_op oAdd (pv 3) (pe_fld (pv 0) rfl)) pa_nil))))))
    (pss_cons (ps_set (i := 6) sc_numbers_in.nd rfl (Or.inl rfl) (pe_callC c_numbers_in.cal hr (by omega) rfl pass_own (pa_cons (pe_fld (pv 0) rfl) (pa_cons (pe_op oSub (pv 1) (pv 4)) (pa_cons (pe_op oSub (pv 2) (pv 4)) (pa_cons (pe_op oAdd (pv 3) (pe_fld (pv 0) rfl)) pa_nil))))))
    (pss_one (ps_ret (pe_op op_cat (pv 5) (pv 6)))))))))))
theorem sc_changed_in : FnScope ["tree", "low", "high", "above", "change", "left", "right", "half", "ahead", "behind"] ["tree", "low", "high", "above", "change"] (defScope st_changed_in) := ⟨rfl, rfl, rfl, by decide +kernel, rfl, by decide +kernel, by decide +kernel⟩
theorem d_changed_in {P : Program} {w : World} {K : PySem.W.Frag} {mg : Str → Option Value} {base : Heap} {k : Nat} {f_ : Addr} {F_ : LF} {fr_ : List Str} {ws_ : List (Option V)} {s_halves : Sp} {s_joined : Sp} {s_changed_in : Sp} {s_change : Sp}
    {k_halves : Nat} (c_halves : Cal P w K mg base k_halves "halves" ["tree"] s_halves) (h_halves : k_halves ≤ k) {k_joined : Nat} (c_joined : Cal P w K mg base k_joined "joined" ["left", "right", "more"] s_joined) (h_joined : k_joined ≤ k) {k_changed_in : Nat} (c_changed_in : CalG P w K mg base k_changed_in "changed_in" ["tree", "low", "high", "above", "change"] (GL f_ F_ fr_ ws_) s_changed_in) (h_changed_in : k_changed_in ≤ k) {k_change : Nat} (lk : LOk P w K mg base k_change f_ F_ fr_ ws_ s_change) (h_change : k_change ≤ k) (z_max : mg "max" = none) (z_min : mg "min" = none)
    (f : Addr) (cdv : Value) (A : Around) (outer : List Env) (s : Shared) (H : Hp) (E : XK) (hG : GL f_ F_ fr_ ws_ outer s H) (hr : Room k (A.deeper (envOfC "changed_in" (defScope st_changed_in) s.heap.objs.size f cdv))) :
    PSs (cxOf (L2.CX P w) P w K mg base ["tree", "low", "high", "above", "change", "left", "right", "half", "ahead", "behind"] "changed_in" (defScope st_changed_in) f cdv A outer s H E) (defBody st_changed_in) (t_changed_in K s_halves s_joined s_changed_in f_ F_ s_change E) :=
  (pss_cons (ps_set (i := 1) sc_changed_in.nd rfl (Or.inl rfl) (pe_callB (cMax rfl) rfl z_max (by decide +kernel) (pa_cons (pv 1) (pa_cons pe_int pa_nil))))
    (pss_cons (ps_set (i := 2) sc_changed_in.nd rfl (Or.inl rfl) (pe_callB (cMin rfl) rfl z_min (by decide +kernel) (pa_cons (pv 2) (pa_cons (pe_fld (pv 0) rfl) pa_nil))))
    (pss_cons (ps_if (pt_cmpR oGe (pv 1) (pv 2) (nomark _)) (pss_one (ps_ret (pv 0))) pss_nil)
    (pss_cons (ps_if (pt_cmpR op_eq (pe_op oSub (pv 2) (pv 1)) (pe_fld (pv 0) rfl) (nomark _)) (pss_one (ps_ret (pe_callV lk hr (by omega) (fun _ _ _ _ I => hG.later I) rfl (Or.inl rfl) pass_own (pa_cons (pv 0) (pa_cons (pv 3) pa_nil))))) pss_nil)
    (pss_cons (ps_asg (pe_callC c_halves hr (by omega) rfl pass_own (pa_cons (pv 0) pa_nil)) (pg_tup rfl (pgs_cons (pg_name (i := 5) sc_changed_in.nd rfl (Or.inl rfl)) (pgs_cons (pg_name (i := 6) sc_changed_in.nd rfl (Or.inl rfl)) pgs_nil))))
    (pss_cons (ps_set (i := 7) sc_changed_in.nd rfl (Or.inl rfl) (pe_fld (pv 5) rfl))
    (pss_cons (ps_set (i := 8) sc_changed_in.nd rfl (Or.inl rfl) (pe_callG c_changed_in hr (by omega) (fun _ _ _ _ I => hG.later I) rfl pass_own (pa_cons (pv 5) (pa_cons (pv 1) (pa_cons (pv 2) (pa_cons (pe_op oAdd (pv 3) (pe_fld (pv 0) rfl)) (pa_cons (pv 4) pa_nil)))))))
    (pss_cons (ps_set (i := 9) sc_changed_in.nd rfl (Or.inl rfl) (pe_callG c_changed_in hr (by omega) (fun _ _ _ _ I => hG.later I) rfl pass_own (pa_cons (pv 6) (pa_cons (pe_op oSub (pv 1) (pv 7)) (pa_cons (pe_op oSub (pv 2) (pv 7)) (pa_cons (pe_op oAdd (pv 3) (pe_fld (pv 0) rfl)) (pa_cons (pv 4) pa_nil)))))))
    (pss_one (ps_ret (pe_callC c_joined hr (by omega) rfl pass_own (pa_cons (pv 8) (pa_cons (pv 9) (pa_cons (pe_fld (pv 0) rfl) pa_nil))))))))))))))
theorem sc_total : FnScope ["book", "low", "high"] ["book", "low", "high"] (defScope st_total) := ⟨rfl, rfl, rfl, by decide +kernel, rfl, by decide +kernel, by decide +kernel⟩
theorem d_total {P : Program} {w : World} {K : PySem.W.Frag} {mg : Str → Option Value} {base : Heap} {k : Nat} {s_check_stretch : Sp} {s_total_in : Sp}
    {k_check_stretch : Nat} (c_check_stretch : Cal P w K mg base k_check_stretch "check_stretch" ["book", "low", "high"] s_check_stretch) (h_check_stretch : k_check_stretch ≤ k) {k_total_in : Nat} (c_total_in : Cal P w K mg base k_total_in "total_in" ["tree", "low", "high"] s_total_in) (h_total_in : k_total_in ≤ k)
    (f : Addr) (cdv : Value) (A : Around) (outer : List Env) (s : Shared) (H : Hp) (E : XK) (hr : Room k (A.deeper (envOfC "total" (defScope st_total) s.heap.objs.size f cdv))) :
    PSs (cxOf (L2.CX P w) P w K mg base ["book", "low", "high"] "total" (defScope st_total) f cdv A outer s H E) (defBody st_total) (t_total s_check_stretch s_total_in E) :=
  (pss_cons (ps_expr (pe_callC c_check_stretch hr (by omega) rfl pass_own (pa_cons (pv 0) (pa_cons (pv 1) (pa_cons (pv 2) pa_nil)))))
    (pss_one (ps_ret (pe_callC c_total_in hr (by omega) rfl pass_own (pa_cons (pv 0) (pa_cons (pv 1) (pa_cons (pv 2) pa_nil)))))))
theorem sc_least : FnScope ["book", "low", "high"] ["book", "low", "high"] (defScope st_least) := ⟨rfl, rfl, rfl, by decide +kernel, rfl, by decide +kernel, by decide +kernel⟩
theorem d_least {P : Program} {w : World} {K : PySem.W.Frag} {mg : Str → Option Value} {base : Heap} {k : Nat} {C_Nothing : Addr} {s_check_stretch : Sp} {s_least_in : Sp}
    {k_check_stretch : Nat} (c_check_stretch : Cal P w K mg base k_check_stretch "check_stretch" ["book", "low", "high"] s_check_stretch) (h_check_stretch : k_check_stretch ≤ k) {k_least_in : Nat} (c_least_in : Cal P w K mg base k_least_in "least_in" ["tree", "low", "high"] s_least_in) (h_least_in : k_least_in ≤ k) (x_Nothing : ExcAt K mg "Nothing" C_Nothing)
    (f : Addr) (cdv : Value) (A : Around) (outer : List Env) (s : Shared) (H : Hp) (E : XK) (hr : Room k (A.deeper (envOfC "least" (defScope st_least) s.heap.objs.size f cdv))) :
    PSs (cxOf (L2.CX P w) P w K mg base ["book", "low", "high"] "least" (defScope st_least) f cdv A outer s H E) (defBody st_least) (t_least C_Nothing s_check_stretch s_least_in E) :=
  (pss_cons (ps_expr (pe_callC c_check_stretch hr (by omega) rfl pass_own (pa_cons (pv 0) (pa_cons (pv 1) (pa_cons (pv 2) pa_nil)))))
    (pss_cons (ps_if (pt_cmpR op_eq (pv 1) (pv 2) (nomark _)) (pss_one (ps_raiseC x_Nothing rfl)) pss_nil)
    (pss_one (ps_ret (pe_callC c_least_in hr (by omega) rfl pass_own (pa_cons (pv 0) (pa_cons (pv 1) (pa_cons (pv 2) pa_nil))))))))
theorem sc_place : FnScope ["book", "low", "high"] ["book", "low", "high"] (defScope st_place) := ⟨rfl, rfl, rfl, by decide +kernel, rfl, by decide +kernel, by decide +kernel⟩
theorem d_place {P : Program} {w : World} {K : PySem.W.Frag} {mg : Str → Option Value} {base : Heap} {k : Nat} {s_least : Sp} {s_first_in : Sp}
    {k_least : Nat} (c_least : Cal P w K mg base k_least "least" ["book", "low", "high"] s_least) (h_least : k_least ≤ k) {k_first_in : Nat} (c_first_in : Cal P w K mg base k_first_in "first_in" ["tree", "low", "bound"] s_first_in) (h_first_in : k_first_in ≤ k)
    (f : Addr) (cdv : Value) (A : Around) (outer : List Env) (s : Shared) (H : Hp) (E : XK) (hr : Room k (A.deeper (envOfC "place" (defScope st_place) s.heap.objs.size f cdv))) :
    PSs (cxOf (L2.CX P w) P w K mg base ["book", "low", "high"] "place" (defScope st_place) f cdv A outer s H E) (defBody st_place) (t_place s_least s_first_in E) :=
  (pss_one (ps_ret (pe_callC c_first_in hr (by omega) rfl pass_own (pa_cons (pv 0) (pa_cons (pv 1) (pa_cons (pe_callC c_least hr (by omega) rfl pass_own (pa_cons (pv 0) (pa_cons (pv 1) (pa_cons (pv 2) pa_nil)))) pa_nil))))))
theorem sc_first : FnScope ["book", "low", "bound"] ["book", "low", "bound"] (defScope st_first) := ⟨rfl, rfl, rfl, by decide +kernel, rfl, by decide +kernel, by decide +kernel⟩
theorem d_first {P : Program} {w : World} {K : PySem.W.Frag} {mg : Str → Option Value} {base : Heap} {k : Nat} {s_check_stretch : Sp} {s_first_in : Sp}
    {k_check_stretch : Nat} (c_check_stretch : Cal P w K mg base k_check_stretch "check_stretch" ["book", "low", "high"] s_check_stretch) (h_check_stretch : k_check_stretch ≤ k) {k_first_in : Nat} (c_first_in : Cal P w K mg base k_first_in "first_in" ["tree", "low", "bound"] s_first_in) (h_first_in : k_first_in ≤ k)
    (f : Addr) (cdv : Value) (A : Around) (outer : List Env) (s : Shared) (H : Hp) (E : XK) (hr : Room k (A.deeper (envOfC "first" (defScope st_first) s.heap.objs.size f cdv))) :
    PSs (cxOf (L2.CX P w) P w K mg base ["book", "low", "bound"] "first" (defScope st_first) f cdv A outer s H E) (defBody st_first) (t_first K s_check_stretch s_first_in E) :=
  (pss_cons (ps_expr (pe_callC c_check_stretch hr (by omega) rfl pass_own (pa_cons (pv 0) (pa_cons (pv 1) (pa_cons (pe_fld (pv 0) rfl) pa_nil)))))
    (pss_one (ps_ret (pe_callC c_first_in hr (by omega) rfl pass_own (pa_cons (pv 0) (pa_cons (pv 1) (pa_cons (pv 2) pa_nil)))))))
theorem sc_added : FnScope ["book", "low", "high", "by"] ["book", "low", "high", "by"] (defScope st_added) := ⟨rfl, rfl, rfl, by decide +kernel, rfl, by decide +kernel, by decide +kernel⟩
theorem d_added {P : Program} {w : World} {K : PySem.W.Frag} {mg : Str → Option Value} {base : Heap} {k : Nat} {s_check_stretch : Sp} {s_added_in : Sp}
    {k_check_stretch : Nat} (c_check_stretch : Cal P w K mg base k_check_stretch "check_stretch" ["book", "low", "high"] s_check_stretch) (h_check_stretch : k_check_stretch ≤ k) {k_added_in : Nat} (c_added_in : Cal P w K mg base k_added_in "added_in" ["tree", "low", "high", "by"] s_added_in) (h_added_in : k_added_in ≤ k)
    (f : Addr) (cdv : Value) (A : Around) (outer : List Env) (s : Shared) (H : Hp) (E : XK) (hr : Room k (A.deeper (envOfC "added" (defScope st_added) s.heap.objs.size f cdv))) :
    PSs (cxOf (L2.CX P w) P w K mg base ["book", "low", "high", "by"] "added" (defScope st_added) f cdv A outer s H E) (defBody st_added) (t_added s_check_stretch s_added_in E) :=
  (pss_cons (ps_expr (pe_callC c_check_stretch hr (by omega) rfl pass_own (pa_cons (pv 0) (pa_cons (pv 1) (pa_cons (pv 2) pa_nil)))))
    (pss_one (ps_ret (pe_callC c_added_in hr (by omega) rfl pass_own (pa_cons (pv 0) (pa_cons (pv 1) (pa_cons (pv 2) (pa_cons (pv 3) pa_nil))))))))
theorem sc_filled : FnScope ["book", "low", "high", "number"] ["book", "low", "high", "number"] (defScope st_filled) := ⟨rfl, rfl, rfl, by decide +kernel, rfl, by decide +kernel, by decide +kernel⟩
theorem d_filled {P : Program} {w : World} {K : PySem.W.Frag} {mg : Str → Option Value} {base : Heap} {k : Nat} {s_check_stretch : Sp} {s_filled_in : Sp}
    {k_check_stretch : Nat} (c_check_stretch : Cal P w K mg base k_check_stretch "check_stretch" ["book", "low", "high"] s_check_stretch) (h_check_stretch : k_check_stretch ≤ k) {k_filled_in : Nat} (c_filled_in : Cal P w K mg base k_filled_in "filled_in" ["tree", "low", "high", "number"] s_filled_in) (h_filled_in : k_filled_in ≤ k)
    (f : Addr) (cdv : Value) (A : Around) (outer : List Env) (s : Shared) (H : Hp) (E : XK) (hr : Room k (A.deeper (envOfC "filled" (defScope st_filled) s.heap.objs.size f cdv))) :
    PSs (cxOf (L2.CX P w) P w K mg base ["book", "low", "high", "number"] "filled" (defScope st_filled) f cdv A outer s H E) (defBody st_filled) (t_filled s_check_stretch s_filled_in E) :=
  (pss_cons (ps_expr (pe_callC c_check_stretch hr (by omega) rfl pass_own (pa_cons (pv 0) (pa_cons (pv 1) (pa_cons (pv 2) pa_nil)))))
    (pss_one (ps_ret (pe_callC c_filled_in hr (by omega) rfl pass_own (pa_cons (pv 0) (pa_cons (pv 1) (pa_cons (pv 2) (pa_cons (pv 3) pa_nil))))))))
theorem sc_made : FnScope ["numbers"] ["numbers"] (defScope st_made) := ⟨rfl, rfl, rfl, by decide +kernel, rfl, by decide +kernel, by decide +kernel⟩
theorem d_made {P : Program} {w : World} {K : PySem.W.Frag} {mg : Str → Option Value} {base : Heap} {k : Nat} {C_NoRow : Addr} {s_tree_of : Sp}
    {k_tree_of : Nat} (c_tree_of : Cal P w K mg base k_tree_of "tree_of" ["numbers"] s_tree_of) (h_tree_of : k_tree_of ≤ k) (x_NoRow : ExcAt K mg "NoRow" C_NoRow) (n_MOST_GIVEN : ∃ t, mg "MOST_GIVEN" = some (.int 1000 t)) (z_len : mg "len" = none)
    (f : Addr) (cdv : Value) (A : Around) (outer : List Env) (s : Shared) (H : Hp) (E : XK) (hr : Room k (A.deeper (envOfC "made" (defScope st_made) s.heap.objs.size f cdv))) :
    PSs (cxOf (L2.CX P w) P w K mg base ["numbers"] "made" (defScope st_made) f cdv A outer s H E) (defBody st_made) (t_made K C_NoRow s_tree_of E) :=
  (pss_cons (ps_if (pt_cmpR oGt (pe_callB cLen rfl z_len boot_len (pa_cons (pv 0) pa_nil)) (pe_num rfl n_MOST_GIVEN) (nomark _)) (pss_one (ps_raiseC x_NoRow rfl)) pss_nil)
    (pss_one (ps_ret (pe_callC c_tree_of hr (by omega) rfl pass_own (pa_cons (pv 0) pa_nil)))))
theorem sc_even : FnScope ["many", "number"] ["many", "number"] (defScope st_even) := ⟨rfl, rfl, rfl, by decide +kernel, rfl, by decide +kernel, by decide +kernel⟩
theorem d_even {P : Program} {w : World} {K : PySem.W.Frag} {mg : Str → Option Value} {base : Heap} {k : Nat} {C_NoRow : Addr} {s_even_tree : Sp}
    {k_even_tree : Nat} (c_even_tree : Cal P w K mg base k_even_tree "even_tree" ["many", "number"] s_even_tree) (h_even_tree : k_even_tree ≤ k) (x_NoRow : ExcAt K mg "NoRow" C_NoRow) (n_MOST_PLACES : ∃ t, mg "MOST_PLACES" = some (.int 1000000000000 t))
    (f : Addr) (cdv : Value) (A : Around) (outer : List Env) (s : Shared) (H : Hp) (E : XK) (hr : Room k (A.deeper (envOfC "even" (defScope st_even) s.heap.objs.size f cdv))) :
    PSs (cxOf (L2.CX P w) P w K mg base ["many", "number"] "even" (defScope st_even) f cdv A outer s H E) (defBody st_even) (t_even C_NoRow s_even_tree E) :=
  (pss_cons (ps_if (PW.pt (pw_or (pt_cmpR oLt (pv 0) pe_int (nomark _)) (pw_or1 (pt_cmpR oGt (pv 0) (pe_num rfl n_MOST_PLACES) (nomark _))))) (pss_one (ps_raiseC x_NoRow rfl)) pss_nil)
    (pss_one (ps_ret (pe_callC c_even_tree hr (by omega) rfl pass_own (pa_cons (pv 0) (pa_cons (pv 1) pa_nil))))))
theorem sc_length : FnScope ["book"] ["book"] (defScope st_length) := ⟨rfl, rfl, rfl, by decide +kernel, rfl, by decide +kernel, by decide +kernel⟩
theorem d_length {P : Program} {w : World} {K : PySem.W.Frag} {mg : Str → Option Value} {base : Heap} {k : Nat} 
    
    (f : Addr) (cdv : Value) (A : Around) (outer : List Env) (s : Shared) (H : Hp) (E : XK) (hr : Room k (A.deeper (envOfC "length" (defScope st_length) s.heap.objs.size f cdv))) :
    PSs (cxOf (L2.CX P w) P w K mg base ["book"] "length" (defScope st_length) f cdv A outer s H E) (defBody st_length) (t_length K E) :=
  (pss_one (ps_ret (pe_fld (pv 0) rfl)))
theorem sc_listed : FnScope ["book", "low", "high"] ["book", "low", "high"] (defScope st_listed) := ⟨rfl, rfl, rfl, by decide +kernel, rfl, by decide +kernel, by decide +kernel⟩
theorem d_listed {P : Program} {w : World} {K : PySem.W.Frag} {mg : Str → Option Value} {base : Heap} {k : Nat} {C_TooMany : Addr} {s_check_stretch : Sp} {s_numbers_in : Sp}
    {k_check_stretch : Nat} (c_check_stretch : Cal P w K mg base k_check_stretch "check_stretch" ["book", "low", "high"] s_check_stretch) (h_check_stretch : k_check_stretch ≤ k) {k_numbers_in : Nat} (c_numbers_in : CalD P w K mg base k_numbers_in "numbers_in" ["tree", "low", "high", "above"] [.int 0] s_numbers_in) (h_numbers_in : k_numbers_in ≤ k) (x_TooMany : ExcAt K mg "TooMany" C_TooMany) (n_MOST_LISTED : ∃ t, mg "MOST_LISTED" = some (.int 1000 t))
    (f : Addr) (cdv : Value) (A : Around) (outer : List Env) (s : Shared) (H : Hp) (E : XK) (hr : Room k (A.deeper (envOfC "listed" (defScope st_listed) s.heap.objs.size f cdv))) :
    PSs (cxOf (L2.CX P w) P w K mg base ["book", "low", "high"] "listed" (defScope st_listed) f cdv A outer s H E) (defBody st_listed) (t_listed C_TooMany s_check_stretch s_numbers_in E) :=
  (pss_cons (ps_expr (pe_callC c_check_stretch hr (by omega) rfl pass_own (pa_cons (pv 0) (pa_cons (pv 1) (pa_cons (pv 2) pa_nil)))))
    (pss_cons (ps_if (pt_cmpR oGt (pe_op oSub (pv 2) (pv 1)) (pe_num rfl n_MOST_LISTED) (nomark _)) (pss_one (ps_raiseC x_TooMany rfl)) pss_nil)
    (pss_one (ps_ret (pe_callD c_numbers_in hr (by omega) rfl pass_own (pa_cons (pv 0) (pa_cons (pv 1) (pa_cons (pv 2) pa_nil))))))))
theorem sc_answers : FnScope ["book", "deeds", "books", "found", "deed"] ["book", "deeds"] (defScope st_answers) := ⟨rfl, rfl, rfl, by decide +kernel, rfl, by decide +kernel, by decide +kernel⟩
theorem d_answers {P : Program} {w : World} {K : PySem.W.Frag} {mg : Str → Option Value} {base : Heap} {k : Nat} {s_answer : Sp}
    {k_answer : Nat} (c_answer : Cal P w K mg base k_answer "answer" ["books", "deed"] s_answer) (h_answer : k_answer ≤ k)
    (f : Addr) (cdv : Value) (A : Around) (outer : List Env) (s : Shared) (H : Hp) (E : XK) (hr : Room k (A.deeper (envOfC "answers" (defScope st_answers) s.heap.objs.size f cdv))) :
    PSs (cxOf (L2.CX P w) P w K mg base ["book", "deeds", "books", "found", "deed"] "answers" (defScope st_answers) f cdv A outer s H E) (defBody st_answers) (t_answers K s_answer E) :=
  (pss_cons (ps_set (i := 2) sc_answers.nd rfl (Or.inl rfl) (pe_lst (pa_cons (pv 0) pa_nil)))
    (pss_cons (ps_set (i := 3) sc_answers.nd rfl (Or.inl rfl) (pe_lst pa_nil))
    (pss_cons (ps_for (passes_of rfl) rfl (pi_list (pv 1)) (pg_name (i := 4) sc_answers.nd rfl (Or.inl rfl))
    (pss_one (ps_expr (pe_bm PySem.F.plainAttrs_list PySem.F.slot_list_append PySem.F.type_list_append mt_append (pv 3) (pa_cons (pe_callC c_answer hr (by omega) rfl pass_own (pa_cons (pv 2) (pa_cons (pv 4) pa_nil))) pa_nil)))))
    (pss_one (ps_ret (pv 3))))))
theorem sc_answer : FnScope ["books", "deed"] ["books", "deed"] (defScope st_answer) := ⟨rfl, rfl, rfl, by decide +kernel, rfl, by decide +kernel, by decide +kernel⟩
theorem d_answer {P : Program} {w : World} {K : PySem.W.Frag} {mg : Str → Option Value} {base : Heap} {k : Nat} {C_OutOfRow : Addr} {C_Nothing : Addr} {C_TooMany : Addr} {s_done : Sp}
    {k_done : Nat} (c_done : Cal P w K mg base k_done "done" ["books", "deed"] s_done) (h_done : k_done ≤ k) (x_OutOfRow : ExcAt K mg "OutOfRow" C_OutOfRow) (x_Nothing : ExcAt K mg "Nothing" C_Nothing) (x_TooMany : ExcAt K mg "TooMany" C_TooMany)
    (f : Addr) (cdv : Value) (A : Around) (outer : List Env) (s : Shared) (H : Hp) (E : XK) (hr : Room k (A.deeper (envOfC "answer" (defScope st_answer) s.heap.objs.size f cdv))) :
    PSs (cxOf (L2.CX P w) P w K mg base ["books", "deed"] "answer" (defScope st_answer) f cdv A outer s H E) (defBody st_answer) (t_answer K C_OutOfRow C_Nothing C_TooMany s_done E) :=
  (pss_one (ps_try_many (tb := fun W => (tRet (tCallS s_done (WE W) (tCons (tVar 0) (tCons (tVar 1) tNil))))) (l := [(.ref C_OutOfRow, fun a cls d => (tRet (tC (.str "out of row")))), (.ref C_Nothing, fun a cls d => (tRet (tC (.str "nothing")))), (.ref C_TooMany, fun a cls d => (tRet (tC (.str "too many"))))]) (Wout := fun cls d _ H => E cls d H) rfl rfl (takes_of rfl rfl rfl rfl) (fun W pn xe tk _ => (pss_one (ps_ret (pe_callSC c_done hr (by omega) rfl (fun σ => passAt tk σ) (pa_cons (pv 0) (pa_cons (pv 1) pa_nil)))))) (.cons ⟨rfl, by decide, .inl x_OutOfRow.g⟩ (fun a oe cls d pn hz hf => (pss_one (ps_ret pe_str))) (.cons ⟨rfl, by decide, .inl x_Nothing.g⟩ (fun a oe cls d pn hz hf => (pss_one (ps_ret pe_str))) (.cons ⟨rfl, by decide, .inl x_TooMany.g⟩ (fun a oe cls d pn hz hf => (pss_one (ps_ret pe_str))) .nil)))))
theorem sc_done : FnScope ["books", "deed", "low", "high", "by", "number"] ["books", "deed"] (defScope st_done) := ⟨rfl, rfl, rfl, by decide +kernel, rfl, by decide +kernel, by decide +kernel⟩
theorem d_done {P : Program} {w : World} {K : PySem.W.Frag} {mg : Str → Option Value} {base : Heap} {k : Nat} {s_told : Sp} {s_go_back : Sp} {s_filled : Sp} {s_added : Sp}
    {k_told : Nat} (c_told : Cal P w K mg base k_told "told" ["book", "deed"] s_told) (h_told : k_told ≤ k) {k_go_back : Nat} (c_go_back : Cal P w K mg base k_go_back "go_back" ["books"] s_go_back) (h_go_back : k_go_back ≤ k) {k_filled : Nat} (c_filled : Cal P w K mg base k_filled "filled" ["book", "low", "high", "number"] s_filled) (h_filled : k_filled ≤ k) {k_added : Nat} (c_added : Cal P w K mg base k_added "added" ["book", "low", "high", "by"] s_added) (h_added : k_added ≤ k)
    (f : Addr) (cdv : Value) (A : Around) (outer : List Env) (s : Shared) (H : Hp) (E : XK) (hr : Room k (A.deeper (envOfC "done" (defScope st_done) s.heap.objs.size f cdv))) :
    PSs (cxOf (L2.CX P w) P w K mg base ["books", "deed", "low", "high", "by", "number"] "done" (defScope st_done) f cdv A outer s H E) (defBody st_done) (t_done K s_told s_go_back s_filled s_added E) :=
  (pss_cons (ps_match (pv 1) (mc_seq sc_done.nd rfl (.cons (i := 2) rfl rfl (.cons (i := 3) rfl rfl (.cons (i := 4) rfl rfl .nil)))
    (pss_one (ps_expr (pe_bm PySem.F.plainAttrs_list PySem.F.slot_list_append PySem.F.type_list_append mt_append (pv 0) (pa_cons (pe_callC c_added hr (by omega) rfl pass_own (pa_cons (pe_ix ix_list (pv 0) (pe_un oNeg pe_int) (fun _ _ => rfl)) (pa_cons (pv 2) (pa_cons (pv 3) (pa_cons (pv 4) pa_nil))))) pa_nil))))
    (mc_seq sc_done.nd rfl (.cons (i := 2) rfl rfl (.cons (i := 3) rfl rfl (.cons (i := 5) rfl rfl .nil)))
    (pss_one (ps_expr (pe_bm PySem.F.plainAttrs_list PySem.F.slot_list_append PySem.F.type_list_append mt_append (pv 0) (pa_cons (pe_callC c_filled hr (by omega) rfl pass_own (pa_cons (pe_ix ix_list (pv 0) (pe_un oNeg pe_int) (fun _ _ => rfl)) (pa_cons (pv 2) (pa_cons (pv 3) (pa_cons (pv 5) pa_nil))))) pa_nil))))
    (mc_seq sc_done.nd rfl .nil
    (pss_one (ps_expr (pe_callC c_go_back hr (by omega) rfl pass_own (pa_cons (pv 0) pa_nil))))
    (mc_wild (pss_one (ps_ret (pe_callC c_told hr (by omega) rfl pass_own (pa_cons (pe_ix ix_list (pv 0) (pe_un oNeg pe_int) (fun _ _ => rfl)) (pa_cons (pv 1) pa_nil))))))))))
    (pss_one (ps_ret pe_non)))
theorem sc_go_back : FnScope ["books"] ["books"] (defScope st_go_back) := ⟨rfl, rfl, rfl, by decide +kernel, rfl, by decide +kernel, by decide +kernel⟩
theorem d_go_back {P : Program} {w : World} {K : PySem.W.Frag} {mg : Str → Option Value} {base : Heap} {k : Nat} {C_Nothing : Addr}
    (x_Nothing : ExcAt K mg "Nothing" C_Nothing) (z_len : mg "len" = none)
    (f : Addr) (cdv : Value) (A : Around) (outer : List Env) (s : Shared) (H : Hp) (E : XK) (hr : Room k (A.deeper (envOfC "go_back" (defScope st_go_back) s.heap.objs.size f cdv))) :
    PSs (cxOf (L2.CX P w) P w K mg base ["books"] "go_back" (defScope st_go_back) f cdv A outer s H E) (defBody st_go_back) (t_go_back K C_Nothing E) :=
  (pss_cons (ps_if (pt_cmpR op_eq (pe_callB cLen rfl z_len boot_len (pa_cons (pv 0) pa_nil)) pe_int (nomark _)) (pss_one (ps_raiseC x_Nothing rfl)) pss_nil)
    (pss_one (ps_expr (pe_bm0 PySem.F.plainAttrs_list PySem.F.slot_list_pop PySem.F.type_list_pop mt_pop (pv 0)))))
theorem sc_told : FnScope ["book", "deed", "low", "high", "bound"] ["book", "deed"] (defScope st_told) := ⟨rfl, rfl, rfl, by decide +kernel, rfl, by decide +kernel, by decide +kernel⟩
theorem d_told {P : Program} {w : World} {K : PySem.W.Frag} {mg : Str → Option Value} {base : Heap} {k : Nat} {s_listed : Sp} {s_first : Sp} {s_place : Sp} {s_least : Sp} {s_total : Sp}
    {k_listed : Nat} (c_listed : Cal P w K mg base k_listed "listed" ["book", "low", "high"] s_listed) (h_listed : k_listed ≤ k) {k_first : Nat} (c_first : Cal P w K mg base k_first "first" ["book", "low", "bound"] s_first) (h_first : k_first ≤ k) {k_place : Nat} (c_place : Cal P w K mg base k_place "place" ["book", "low", "high"] s_place) (h_place : k_place ≤ k) {k_least : Nat} (c_least : Cal P w K mg base k_least "least" ["book", "low", "high"] s_least) (h_least : k_least ≤ k) {k_total : Nat} (c_total : Cal P w K mg base k_total "total" ["book", "low", "high"] s_total) (h_total : k_total ≤ k)
    (f : Addr) (cdv : Value) (A : Around) (outer : List Env) (s : Shared) (H : Hp) (E : XK) (hr : Room k (A.deeper (envOfC "told" (defScope st_told) s.heap.objs.size f cdv))) :
    PSs (cxOf (L2.CX P w) P w K mg base ["book", "deed", "low", "high", "bound"] "told" (defScope st_told) f cdv A outer s H E) (defBody st_told) (t_told K s_listed s_first s_place s_least s_total E) :=
  (pss_one (ps_match (pv 1) (mc_seq sc_told.nd rfl (.cons (i := 2) rfl rfl (.cons (i := 3) rfl rfl .nil))
    (pss_one (ps_ret (pe_callC c_total hr (by omega) rfl pass_own (pa_cons (pv 0) (pa_cons (pv 2) (pa_cons (pv 3) pa_nil))))))
    (mc_seq sc_told.nd rfl (.cons (i := 2) rfl rfl (.cons (i := 3) rfl rfl .nil))
    (pss_one (ps_ret (pe_callC c_least hr (by omega) rfl pass_own (pa_cons (pv 0) (pa_cons (pv 2) (pa_cons (pv 3) pa_nil))))))
    (mc_seq sc_told.nd rfl (.cons (i := 2) rfl rfl (.cons (i := 3) rfl rfl .nil))
    (pss_one (ps_ret (pe_callC c_place hr (by omega) rfl pass_own (pa_cons (pv 0) (pa_cons (pv 2) (pa_cons (pv 3) pa_nil))))))
    (mc_seq sc_told.nd rfl (.cons (i := 2) rfl rfl (.cons (i := 4) rfl rfl .nil))
    (pss_one (ps_ret (pe_callC c_first hr (by omega) rfl pass_own (pa_cons (pv 0) (pa_cons (pv 2) (pa_cons (pv 4) pa_nil))))))
    (mc_seq sc_told.nd rfl (.cons (i := 2) rfl rfl (.cons (i := 3) rfl rfl .nil))
    (pss_one (ps_ret (pe_callC c_listed hr (by omega) rfl pass_own (pa_cons (pv 0) (pa_cons (pv 2) (pa_cons (pv 3) pa_nil))))))
    mc_nil)))))))
theorem sc_l_whole : FnScope ["_law_found"] ["_law_found"] (defScope st_l_whole) := ⟨rfl, rfl, rfl, by decide +kernel, rfl, by decide +kernel, by decide +kernel⟩
theorem d_l_whole {P : Program} {w : World} {K : PySem.W.Frag} {mg : Str → Option Value} {base : Heap} {k : Nat} 
    (z_int : mg "int" = none) (z_isinstance : mg "isinstance" = none) (z_bool : mg "bool" = none)
    (f : Addr) (cdv : Value) (A : Around) (outer : List Env) (s : Shared) (H : Hp) (E : XK) (hr : Room k (A.deeper (envOfC "_law_whole" (defScope st_l_whole) s.heap.objs.size f cdv))) :
    PSs (cxOf (L2.CX P w) P w K mg base ["_law_found"] "_law_whole" (defScope st_l_whole) f cdv A outer s H E) (defBody st_l_whole) (t_l_whole K E) :=
  (pss_one (ps_ret (pe_and (pe_callB call_isi rfl z_isinstance (by decide +kernel) (pa_cons (pv 0) (pa_cons (pe_bltn (v := .ty "int") rfl z_int boot_int rfl) pa_nil))) (pe_one (pe_not (pe_callB call_isi rfl z_isinstance (by decide +kernel) (pa_cons (pv 0) (pa_cons (pe_bltn (v := .ty "bool") rfl z_bool boot_bool rfl) pa_nil))))))))
theorem sc_l_cell_at : FnScope ["_law_script", "_law_k"] ["_law_script", "_law_k"] (defScope st_l_cell_at) := ⟨rfl, rfl, rfl, by decide +kernel, rfl, by decide +kernel, by decide +kernel⟩
theorem d_l_cell_at {P : Program} {w : World} {K : PySem.W.Frag} {mg : Str → Option Value} {base : Heap} {k : Nat} 
    (z_len : mg "len" = none)
    (f : Addr) (cdv : Value) (A : Around) (outer : List Env) (s : Shared) (H : Hp) (E : XK) (hr : Room k (A.deeper (envOfC "_law_cell_at" (defScope st_l_cell_at) s.heap.objs.size f cdv))) :
    PSs (cxOf (L2.CX P w) P w K mg base ["_law_script", "_law_k"] "_law_cell_at" (defScope st_l_cell_at) f cdv A outer s H E) (defBody st_l_cell_at) (t_l_cell_at K E) :=
  (pss_cons (ps_if (pt_cmpR oLt (pv 1) (pe_callB cLen rfl z_len boot_len (pa_cons (pv 0) pa_nil)) (nomark _)) (pss_one (ps_ret (pe_ix ix_list (pv 0) (pv 1) (fun _ _ => rfl)))) pss_nil)
    (pss_one (ps_ret pe_int)))
theorem sc_l_number_by : FnScope ["_law_cell"] ["_law_cell"] (defScope st_l_number_by) := ⟨rfl, rfl, rfl, by decide +kernel, rfl, by decide +kernel, by decide +kernel⟩
theorem d_l_number_by {P : Program} {w : World} {K : PySem.W.Frag} {mg : Str → Option Value} {base : Heap} {k : Nat} 
    
    (f : Addr) (cdv : Value) (A : Around) (outer : List Env) (s : Shared) (H : Hp) (E : XK) (hr : Room k (A.deeper (envOfC "_law_number_by" (defScope st_l_number_by) s.heap.objs.size f cdv))) :
    PSs (cxOf (L2.CX P w) P w K mg base ["_law_cell"] "_law_number_by" (defScope st_l_number_by) f cdv A outer s H E) (defBody st_l_number_by) (t_l_number_by  E) :=
  (pss_cons (ps_if (pt_cmpR op_eq (pe_op oMod (pv 0) pe_int) pe_int (nomark _)) (pss_one (ps_ret (pe_op oMulW (pe_op oMulW (pe_op oMul (pe_op oSub (pe_op oMod (pe_op oDiv (pv 0) pe_int) pe_int) pe_int) (pe_op oPow pe_int pe_int)) (pe_op oPow pe_int pe_int)) (pe_op oPow pe_int pe_int)))) pss_nil)
    (pss_cons (ps_if (pt_cmpR op_eq (pe_op oMod (pv 0) pe_int) pe_int (nomark _)) (pss_one (ps_ret (pe_op oSub (pe_op oMod (pe_op oDiv (pv 0) pe_int) (pe_op oAdd (pe_op oMul pe_int (pe_op oPow pe_int pe_int)) pe_int)) (pe_op oPow pe_int pe_int)))) pss_nil)
    (pss_cons (ps_if (pt_cmpR op_eq (pe_op oMod (pv 0) pe_int) pe_int (nomark _)) (pss_one (ps_ret (pe_op oSub (pe_op oMod (pe_op oDiv (pv 0) pe_int) pe_int) pe_int))) pss_nil)
    (pss_one (ps_ret (pe_op oSub (pe_op oMod (pe_op oDiv (pv 0) pe_int) pe_int) pe_int))))))
theorem sc_l_cut : FnScope ["_law_runs", "_law_at", "_law_found", "_law_run_here"] ["_law_runs", "_law_at"] (defScope st_l_cut) := ⟨rfl, rfl, rfl, by decide +kernel, rfl, by decide +kernel, by decide +kernel⟩
theorem d_l_cut {P : Program} {w : World} {K : PySem.W.Frag} {mg : Str → Option Value} {base : Heap} {k : Nat} 
    
    (f : Addr) (cdv : Value) (A : Around) (outer : List Env) (s : Shared) (H : Hp) (E : XK) (hr : Room k (A.deeper (envOfC "_law_cut" (defScope st_l_cut) s.heap.objs.size f cdv))) :
    PSs (cxOf (L2.CX P w) P w K mg base ["_law_runs", "_law_at", "_law_found", "_law_run_here"] "_law_cut" (defScope st_l_cut) f cdv A outer s H E) (defBody st_l_cut) (t_l_cut K E) :=
  (pss_cons (ps_set (i := 2) sc_l_cut.nd rfl (Or.inl rfl) (pe_lst pa_nil))
    (pss_cons (ps_for (passes_of rfl) rfl (pi_list (pv 0)) (pg_name (i := 3) sc_l_cut.nd rfl (Or.inl rfl))
    (pss_one (ps_if (PW.pt (pw_and (pt_cmpR oLt (pe_ix ix_tup (pv 3) pe_int (fun _ _ => rfl)) (pv 1) (nomark _)) (pw_and1 (pt_cmpR oLt (pv 1) (pe_ix ix_tup (pv 3) pe_int (fun _ _ => rfl)) (nomark _))))) (pss_cons (ps_expr (pe_bm PySem.F.plainAttrs_list PySem.F.slot_list_append PySem.F.type_list_append mt_append (pv 2) (pa_cons (pe_tup (pa_cons (pe_ix ix_tup (pv 3) pe_int (fun _ _ => rfl)) (pa_cons (pv 1) (pa_cons (pe_ix ix_tup (pv 3) pe_int (fun _ _ => rfl)) pa_nil)))) pa_nil)))
    (pss_one (ps_expr (pe_bm PySem.F.plainAttrs_list PySem.F.slot_list_append PySem.F.type_list_append mt_append (pv 2) (pa_cons (pe_tup (pa_cons (pv 1) (pa_cons (pe_ix ix_tup (pv 3) pe_int (fun _ _ => rfl)) (pa_cons (pe_ix ix_tup (pv 3) pe_int (fun _ _ => rfl)) pa_nil)))) pa_nil))))) (pss_one (ps_expr (pe_bm PySem.F.plainAttrs_list PySem.F.slot_list_append PySem.F.type_list_append mt_append (pv 2) (pa_cons (pv 3) pa_nil)))))))
    (pss_one (ps_ret (pv 2)))))
theorem sc_l_changed11 : FnScope ["_law_runs", "_law_word", "_law_low", "_law_high", "_law_number", "_law_found", "_law_run_here"] ["_law_runs", "_law_word", "_law_low", "_law_high", "_law_number"] (defScope st_l_changed11) := ⟨rfl, rfl, rfl, by decide +kernel, rfl, by decide +kernel, by decide +kernel⟩
theorem d_l_changed11 {P : Program} {w : World} {K : PySem.W.Frag} {mg : Str → Option Value} {base : Heap} {k : Nat} {s_l_cut : Sp}
    {k_l_cut : Nat} (c_l_cut : Cal P w K mg base k_l_cut "_law_cut" ["_law_runs", "_law_at"] s_l_cut) (h_l_cut : k_l_cut ≤ k)
    (f : Addr) (cdv : Value) (A : Around) (outer : List Env) (s : Shared) (H : Hp) (E : XK) (hr : Room k (A.deeper (envOfC "_law_changed" (defScope st_l_changed11) s.heap.objs.size f cdv))) :
    PSs (cxOf (L2.CX P w) P w K mg base ["_law_runs", "_law_word", "_law_low", "_law_high", "_law_number", "_law_found", "_law_run_here"] "_law_changed" (defScope st_l_changed11) f cdv A outer s H E) (defBody st_l_changed11) (t_l_changed11 K s_l_cut E) :=
  (pss_cons (ps_if (pt_cmpR op_eq (pv 2) (pv 3) (nomark _)) (pss_one (ps_ret (pv 0))) pss_nil)
    (pss_cons (ps_set (i := 5) sc_l_changed11.nd rfl (Or.inl rfl) (pe_lst pa_nil))
    (pss_cons (ps_for (passes_of rfl) rfl (pi_list (pe_callC c_l_cut hr (by omega) rfl pass_own (pa_cons (pe_callC c_l_cut hr (by omega) rfl pass_own (pa_cons (pv 0) (pa_cons (pv 2) pa_nil))) (pa_cons (pv 3) pa_nil)))) (pg_name (i := 6) sc_l_changed11.nd rfl (Or.inl rfl))
    (pss_one (ps_if (PW.pt (pw_or (pt_cmpR oLt (pe_ix ix_tup (pv 6) pe_int (fun _ _ => rfl)) (pv 2) (nomark _)) (pw_or1 (pt_cmpR oLt (pv 3) (pe_ix ix_tup (pv 6) pe_int (fun _ _ => rfl)) (nomark _))))) (pss_one (ps_expr (pe_bm PySem.F.plainAttrs_list PySem.F.slot_list_append PySem.F.type_list_append mt_append (pv 5) (pa_cons (pv 6) pa_nil)))) (pss_one (ps_if (pt_cmpR op_eq (pv 1) pe_str (nomark _)) (pss_one (ps_expr (pe_bm PySem.F.plainAttrs_list PySem.F.slot_list_append PySem.F.type_list_append mt_append (pv 5) (pa_cons (pe_tup (pa_cons (pe_ix ix_tup (pv 6) pe_int (fun _ _ => rfl)) (pa_cons (pe_ix ix_tup (pv 6) pe_int (fun _ _ => rfl)) (pa_cons (pv 4) pa_nil)))) pa_nil)))) (pss_one (ps_expr (pe_bm PySem.F.plainAttrs_list PySem.F.slot_list_append PySem.F.type_list_append mt_append (pv 5) (pa_cons (pe_tup (pa_cons (pe_ix ix_tup (pv 6) pe_int (fun _ _ => rfl)) (pa_cons (pe_ix ix_tup (pv 6) pe_int (fun _ _ => rfl)) (pa_cons (pe_op oAdd (pe_ix ix_tup (pv 6) pe_int (fun _ _ => rfl)) (pv 4)) pa_nil)))) pa_nil)))))))))
    (pss_one (ps_ret (pv 5))))))
theorem sc_l_within : FnScope ["_law_runs", "_law_low", "_law_high", "_law_found", "_law_run_here"] ["_law_runs", "_law_low", "_law_high"] (defScope st_l_within) := ⟨rfl, rfl, rfl, by decide +kernel, rfl, by decide +kernel, by decide +kernel⟩
theorem d_l_within {P : Program} {w : World} {K : PySem.W.Frag} {mg : Str → Option Value} {base : Heap} {k : Nat} 
    (z_max : mg "max" = none) (z_min : mg "min" = none)
    (f : Addr) (cdv : Value) (A : Around) (outer : List Env) (s : Shared) (H : Hp) (E : XK) (hr : Room k (A.deeper (envOfC "_law_within" (defScope st_l_within) s.heap.objs.size f cdv))) :
    PSs (cxOf (L2.CX P w) P w K mg base ["_law_runs", "_law_low", "_law_high", "_law_found", "_law_run_here"] "_law_within" (defScope st_l_within) f cdv A outer s H E) (defBody st_l_within) (t_l_within K E) :=
  (pss_cons (ps_set (i := 3) sc_l_within.nd rfl (Or.inl rfl) (pe_lst pa_nil))
    (pss_cons (ps_for (passes_of rfl) rfl (pi_list (pv 0)) (pg_name (i := 4) sc_l_within.nd rfl (Or.inl rfl))
    (pss_one (ps_if (pt_cmpR oLt (pe_callB (cMax rfl) rfl z_max (by decide +kernel) (pa_cons (pe_ix ix_tup (pv 4) pe_int (fun _ _ => rfl)) (pa_cons (pv 1) pa_nil))) (pe_callB (cMin rfl) rfl z_min (by decide +kernel) (pa_cons (pe_ix ix_tup (pv 4) pe_int (fun _ _ => rfl)) (pa_cons (pv 2) pa_nil))) (nomark _)) (pss_one (ps_expr (pe_bm PySem.F.plainAttrs_list PySem.F.slot_list_append PySem.F.type_list_append mt_append (pv 3) (pa_cons (pe_tup (pa_cons (pe_callB (cMax rfl) rfl z_max (by decide +kernel) (pa_cons (pe_ix ix_tup (pv 4) pe_int (fun _ _ => rfl)) (pa_cons (pv 1) pa_nil))) (pa_cons (pe_callB (cMin rfl) rfl z_min (by decide +kernel) (pa_cons (pe_ix ix_tup (pv 4) pe_int (fun _ _ => rfl)) (pa_cons (pv 2) pa_nil))) (pa_cons (pe_ix ix_tup (pv 4) pe_int (fun _ _ => rfl)) pa_nil)))) pa_nil)))) pss_nil)))
    (pss_one (ps_ret (pv 3)))))
theorem sc_l_due11 : FnScope ["_law_runs", "_law_word", "_law_low", "_law_high", "_law_some", "_law_row", "_law_run_here", "_law_best"] ["_law_runs", "_law_word", "_law_low", "_law_high"] (defScope st_l_due11) := ⟨rfl, rfl, rfl, by decide +kernel, rfl, by decide +kernel, by decide +kernel⟩
theorem d_l_due11 {P : Program} {w : World} {K : PySem.W.Frag} {mg : Str → Option Value} {base : Heap} {k : Nat} {s_l_within : Sp}
    {k_l_within : Nat} (c_l_within : Cal P w K mg base k_l_within "_law_within" ["_law_runs", "_law_low", "_law_high"] s_l_within) (h_l_within : k_l_within ≤ k) (z_sum : mg "sum" = none)
    (f : Addr) (cdv : Value) (A : Around) (outer : List Env) (s : Shared) (H : Hp) (E : XK) (hr : Room k (A.deeper (envOfC "_law_due" (defScope st_l_due11) s.heap.objs.size f cdv))) :
    PSs (cxOf (L2.CX P w) P w K mg base ["_law_runs", "_law_word", "_law_low", "_law_high", "_law_some", "_law_row", "_law_run_here", "_law_best"] "_law_due" (defScope st_l_due11) f cdv A outer s H E) (defBody st_l_due11) (t_l_due11 K s_l_within E) :=
  (pss_cons (ps_set (i := 4) sc_l_due11.nd rfl (Or.inl rfl) (pe_callC c_l_within hr (by omega) rfl pass_own (pa_cons (pv 0) (pa_cons (pv 2) (pa_cons (pv 3) pa_nil)))))
    (pss_cons (ps_if (pt_cmpR op_eq (pv 1) pe_str (nomark _)) (pss_one (ps_ret (pe_callB (cr_sum rfl) rfl z_sum (by decide +kernel) (pa_cons (pe_lc (own := [("_law_run_here", 6)]) (g := gName 6) (tt := tYes) (te := (tOp nMul (tOp nSub (tOp (rIxT K) (tVar 6) (tC (.int 1))) (tOp (rIxT K) (tVar 6) (tC (.int 0)))) (tOp (rIxT K) (tVar 6) (tC (.int 2))))) rfl sc_l_due11.nd (pi_list (pv 4)) (blkOk_by (own := [("_law_run_here", 6)]) (N := ["_law_runs", "_law_word", "_law_low", "_law_high", "_law_some", "_law_row", "_law_run_here", "_law_best"]) (sc := defScope st_l_due11) (by decide +kernel)) (fun _ _ _ _ _ => pg_name (i := 6) sc_l_due11.nd rfl (Or.inl rfl)) (fun _ _ _ _ _ => pts_nil) (fun _ _ _ _ _ => (pe_op oMul (pe_op oSub (pe_ix ix_tup (pv 6) pe_int (fun _ _ => rfl)) (pe_ix ix_tup (pv 6) pe_int (fun _ _ => rfl))) (pe_ix ix_tup (pv 6) pe_int (fun _ _ => rfl))))) pa_nil)))) pss_nil)
    (pss_cons (ps_if (pt_cmpR op_eq (pv 1) pe_str (nomark _)) (pss_cons (ps_set (i := 5) sc_l_due11.nd rfl (Or.inl rfl) (pe_lst pa_nil))
    (pss_cons (ps_for (passes_of rfl) rfl (pi_list (pv 4)) (pg_name (i := 6) sc_l_due11.nd rfl (Or.inl rfl))
    (pss_one (ps_set (i := 5) sc_l_due11.nd rfl (Or.inl rfl) (pe_op op_cat (pv 5) (pe_op op_rep (pe_lst (pa_cons (pe_ix ix_tup (pv 6) pe_int (fun _ _ => rfl)) pa_nil)) (pe_op oSub (pe_ix ix_tup (pv 6) pe_int (fun _ _ => rfl)) (pe_ix ix_tup (pv 6) pe_int (fun _ _ => rfl))))))))
    (pss_one (ps_ret (pv 5))))) pss_nil)
    (pss_cons (ps_set (i := 7) sc_l_due11.nd rfl (Or.inl rfl) (pe_ix ix_list (pv 4) pe_int (fun _ _ => rfl)))
    (pss_cons (ps_for (passes_of rfl) rfl (pi_list (pv 4)) (pg_name (i := 6) sc_l_due11.nd rfl (Or.inl rfl))
    (pss_one (ps_if (pt_cmpR oLt (pe_ix ix_tup (pv 6) pe_int (fun _ _ => rfl)) (pe_ix ix_tup (pv 7) pe_int (fun _ _ => rfl)) (nomark _)) (pss_one (ps_set (i := 7) sc_l_due11.nd rfl (Or.inl rfl) (pv 6))) pss_nil)))
    (pss_cons (ps_if (pt_cmpR op_eq (pv 1) pe_str (nomark _)) (pss_one (ps_ret (pe_ix ix_tup (pv 7) pe_int (fun _ _ => rfl)))) pss_nil)
    (pss_one (ps_ret (pe_ix ix_tup (pv 7) pe_int (fun _ _ => rfl))))))))))
theorem sc_l_first11 : FnScope ["_law_runs", "_law_low", "_law_bound", "_law_run_here"] ["_law_runs", "_law_low", "_law_bound"] (defScope st_l_first11) := ⟨rfl, rfl, rfl, by decide +kernel, rfl, by decide +kernel, by decide +kernel⟩
theorem d_l_first11 {P : Program} {w : World} {K : PySem.W.Frag} {mg : Str → Option Value} {base : Heap} {k : Nat} 
    (z_max : mg "max" = none)
    (f : Addr) (cdv : Value) (A : Around) (outer : List Env) (s : Shared) (H : Hp) (E : XK) (hr : Room k (A.deeper (envOfC "_law_first" (defScope st_l_first11) s.heap.objs.size f cdv))) :
    PSs (cxOf (L2.CX P w) P w K mg base ["_law_runs", "_law_low", "_law_bound", "_law_run_here"] "_law_first" (defScope st_l_first11) f cdv A outer s H E) (defBody st_l_first11) (t_l_first11 K E) :=
  (pss_cons (ps_for (passes_of rfl) rfl (pi_list (pv 0)) (pg_name (i := 3) sc_l_first11.nd rfl (Or.inl rfl))
    (pss_one (ps_if (PW.pt (pw_and (pt_cmpR oGt (pe_ix ix_tup (pv 3) pe_int (fun _ _ => rfl)) (pv 1) (nomark _)) (pw_and1 (pt_cmpR oLe (pe_ix ix_tup (pv 3) pe_int (fun _ _ => rfl)) (pv 2) (nomark _))))) (pss_one (ps_ret (pe_callB (cMax rfl) rfl z_max (by decide +kernel) (pa_cons (pe_ix ix_tup (pv 3) pe_int (fun _ _ => rfl)) (pa_cons (pv 1) pa_nil))))) pss_nil)))
    (pss_one (ps_ret pe_non)))
theorem sc_l_alike10 : FnScope ["_law_found", "_law_due_here", "_law_k"] ["_law_found", "_law_due_here"] (defScope st_l_alike10) := ⟨rfl, rfl, rfl, by decide +kernel, rfl, by decide +kernel, by decide +kernel⟩
theorem d_l_alike10 {P : Program} {w : World} {K : PySem.W.Frag} {mg : Str → Option Value} {base : Heap} {k : Nat} {s_l_whole : Sp}
    {k_l_whole : Nat} (c_l_whole : Cal P w K mg base k_l_whole "_law_whole" ["_law_found"] s_l_whole) (h_l_whole : k_l_whole ≤ k) (z_str : mg "str" = none) (z_isinstance : mg "isinstance" = none) (z_list : mg "list" = none) (z_len : mg "len" = none) (z_range : mg "range" = none)
    (f : Addr) (cdv : Value) (A : Around) (outer : List Env) (s : Shared) (H : Hp) (E : XK) (hr : Room k (A.deeper (envOfC "_law_alike" (defScope st_l_alike10) s.heap.objs.size f cdv))) :
    PSs (cxOf (L2.CX P w) P w K mg base ["_law_found", "_law_due_here", "_law_k"] "_law_alike" (defScope st_l_alike10) f cdv A outer s H E) (defBody st_l_alike10) (t_l_alike10 K s_l_whole E) :=
  (pss_cons (ps_if (pt_cmpR oIs (pv 1) pe_non (nomark _)) (pss_one (ps_ret (pe_cmpR oIs (pv 0) pe_non (nomark _)))) pss_nil)
    (pss_cons (ps_if (pt_val (pe_callB call_isi rfl z_isinstance (by decide +kernel) (pa_cons (pv 1) (pa_cons (pe_bltn (v := .ty "str") rfl z_str boot_str rfl) pa_nil)))) (pss_one (ps_ret (pe_and (pe_callB call_isi rfl z_isinstance (by decide +kernel) (pa_cons (pv 0) (pa_cons (pe_bltn (v := .ty "str") rfl z_str boot_str rfl) pa_nil))) (pe_one (pe_cmpR op_eq (pv 0) (pv 1) (nomark _)))))) pss_nil)
    (pss_cons (ps_if (pt_not (pt_val (pe_callB call_isi rfl z_isinstance (by decide +kernel) (pa_cons (pv 1) (pa_cons (pe_bltn (v := .ty "list") rfl z_list boot_list rfl) pa_nil))))) (pss_one (ps_ret (pe_and (pe_callC c_l_whole hr (by omega) rfl pass_own (pa_cons (pv 0) pa_nil)) (pe_one (pe_cmpR op_eq (pv 0) (pv 1) (nomark _)))))) pss_nil)
    (pss_cons (ps_if (PW.pt (pw_or (pt_not (pt_val (pe_callB call_isi rfl z_isinstance (by decide +kernel) (pa_cons (pv 0) (pa_cons (pe_bltn (v := .ty "list") rfl z_list boot_list rfl) pa_nil))))) (pw_or1 (pt_cmpR op_ne (pe_callB cLen rfl z_len boot_len (pa_cons (pv 0) pa_nil)) (pe_callB cLen rfl z_len boot_len (pa_cons (pv 1) pa_nil)) (nomark _))))) (pss_one (ps_ret pe_bl)) pss_nil)
    (pss_cons (ps_for (passes_of rfl) rfl (pi_range1 rfl z_range (pa_cons (pe_callB cLen rfl z_len boot_len (pa_cons (pv 1) pa_nil)) pa_nil)) (pg_name (i := 2) sc_l_alike10.nd rfl (Or.inl rfl))
    (pss_one (ps_if (PW.pt (pw_or (pt_not (pt_val (pe_callC c_l_whole hr (by omega) rfl pass_own (pa_cons (pe_ix ix_list (pv 0) (pv 2) (fun _ _ => rfl)) pa_nil)))) (pw_or1 (pt_cmpR op_ne (pe_ix ix_list (pv 0) (pv 2) (fun _ _ => rfl)) (pe_ix ix_list (pv 1) (pv 2) (fun _ _ => rfl)) (nomark _))))) (pss_one (ps_ret pe_bl)) pss_nil)))
    (pss_one (ps_ret pe_bl)))))))
theorem sc_l_end_by14 : FnScope ["_law_cell", "_law_runs", "_law_many", "_law_at"] ["_law_cell", "_law_runs", "_law_many"] (defScope st_l_end_by14) := ⟨rfl, rfl, rfl, by decide +kernel, rfl, by decide +kernel, by decide +kernel⟩
theorem d_l_end_by14 {P : Program} {w : World} {K : PySem.W.Frag} {mg : Str → Option Value} {base : Heap} {k : Nat} 
    (z_len : mg "len" = none)
    (f : Addr) (cdv : Value) (A : Around) (outer : List Env) (s : Shared) (H : Hp) (E : XK) (hr : Room k (A.deeper (envOfC "_law_end_by" (defScope st_l_end_by14) s.heap.objs.size f cdv))) :
    PSs (cxOf (L2.CX P w) P w K mg base ["_law_cell", "_law_runs", "_law_many", "_law_at"] "_law_end_by" (defScope st_l_end_by14) f cdv A outer s H E) (defBody st_l_end_by14) (t_l_end_by14 K E) :=
  (pss_cons (ps_set (i := 3) sc_l_end_by14.nd rfl (Or.inl rfl) (pe_op oMod (pe_op oMul (pe_op oDiv (pv 0) pe_int) pe_int) (pe_op oAdd (pv 2) pe_int)))
    (pss_cons (ps_if (pt_cmpR op_eq (pe_op oMod (pv 0) pe_int) pe_int (nomark _)) (pss_one (ps_set (i := 3) sc_l_end_by14.nd rfl (Or.inl rfl) (pe_op oSub (pe_op oAdd (pe_ix ix_tup (pe_ix ix_list (pv 1) (pe_op oMod (pe_op oDiv (pv 0) pe_int) (pe_callB cLen rfl z_len boot_len (pa_cons (pv 1) pa_nil))) (fun _ _ => rfl)) pe_int (fun _ _ => rfl)) (pe_op oMod (pe_op oDiv (pv 0) pe_int) pe_int)) pe_int))) pss_nil)
    (pss_cons (ps_if (pt_cmpR op_eq (pe_op oMod (pv 0) pe_int) pe_int (nomark _)) (pss_one (ps_set (i := 3) sc_l_end_by14.nd rfl (Or.inl rfl) (pe_op oAdd (pe_op oSub (pe_ix ix_tup (pe_ix ix_list (pv 1) (pe_op oMod (pe_op oDiv (pv 0) pe_int) (pe_callB cLen rfl z_len boot_len (pa_cons (pv 1) pa_nil))) (fun _ _ => rfl)) pe_int (fun _ _ => rfl)) (pe_op oMod (pe_op oDiv (pv 0) pe_int) pe_int)) pe_int))) pss_nil)
    (pss_cons (ps_if (pt_cmpR op_eq (pe_op oMod (pv 0) pe_int) pe_int (nomark _)) (pss_one (ps_set (i := 3) sc_l_end_by14.nd rfl (Or.inl rfl) (pe_op oSub (pe_un oNeg pe_int) (pe_op oMod (pe_op oDiv (pv 0) pe_int) pe_int)))) pss_nil)
    (pss_cons (ps_if (pt_cmpR op_eq (pe_op oMod (pv 0) pe_int) pe_int (nomark _)) (pss_one (ps_set (i := 3) sc_l_end_by14.nd rfl (Or.inl rfl) (pe_op oAdd (pe_op oAdd (pv 2) pe_int) (pe_op oMod (pe_op oDiv (pv 0) pe_int) pe_int)))) pss_nil)
    (pss_one (ps_ret (pv 3))))))))
theorem sc_l_answer : FnScope ["_law_runs", "_law_many", "_law_deed"] ["_law_runs", "_law_many", "_law_deed"] (defScope st_l_answer) := ⟨rfl, rfl, rfl, by decide +kernel, rfl, by decide +kernel, by decide +kernel⟩
theorem d_l_answer {P : Program} {w : World} {K : PySem.W.Frag} {mg : Str → Option Value} {base : Heap} {k : Nat} {s_l_first11 : Sp} {s_l_due11 : Sp}
    {k_l_first11 : Nat} (c_l_first11 : Cal P w K mg base k_l_first11 "_law_first" ["_law_runs", "_law_low", "_law_bound"] s_l_first11) (h_l_first11 : k_l_first11 ≤ k) {k_l_due11 : Nat} (c_l_due11 : Cal P w K mg base k_l_due11 "_law_due" ["_law_runs", "_law_word", "_law_low", "_law_high"] s_l_due11) (h_l_due11 : k_l_due11 ≤ k)
    (f : Addr) (cdv : Value) (A : Around) (outer : List Env) (s : Shared) (H : Hp) (E : XK) (hr : Room k (A.deeper (envOfC "_law_answer" (defScope st_l_answer) s.heap.objs.size f cdv))) :
    PSs (cxOf (L2.CX P w) P w K mg base ["_law_runs", "_law_many", "_law_deed"] "_law_answer" (defScope st_l_answer) f cdv A outer s H E) (defBody st_l_answer) (t_l_answer K s_l_first11 s_l_due11 E) :=
  (pss_cons (ps_if (pt_cmpR op_eq (pe_ix ix_tup (pv 2) pe_int (fun _ _ => rfl)) pe_str (nomark _)) (pss_cons (ps_if (PW.pt (pw_or (pt_cmpR oLt (pe_ix ix_tup (pv 2) pe_int (fun _ _ => rfl)) pe_int (nomark _)) (pw_or1 (pt_cmpR oGt (pe_ix ix_tup (pv 2) pe_int (fun _ _ => rfl)) (pv 1) (nomark _))))) (pss_one (ps_ret pe_str)) pss_nil)
    (pss_one (ps_ret (pe_callC c_l_first11 hr (by omega) rfl pass_own (pa_cons (pv 0) (pa_cons (pe_ix ix_tup (pv 2) pe_int (fun _ _ => rfl)) (pa_cons (pe_ix ix_tup (pv 2) pe_int (fun _ _ => rfl)) pa_nil))))))) pss_nil)
    (pss_cons (ps_if (PW.pt (pw_or (pt_cmpR oLt (pe_ix ix_tup (pv 2) pe_int (fun _ _ => rfl)) pe_int (nomark _)) (pw_or (pt_cmpR oLt (pe_ix ix_tup (pv 2) pe_int (fun _ _ => rfl)) (pe_ix ix_tup (pv 2) pe_int (fun _ _ => rfl)) (nomark _)) (pw_or1 (pt_cmpR oGt (pe_ix ix_tup (pv 2) pe_int (fun _ _ => rfl)) (pv 1) (nomark _)))))) (pss_one (ps_ret pe_str)) pss_nil)
    (pss_cons (ps_if (PW.pt (pw_or (pt_cmpR op_eq (pe_ix ix_tup (pv 2) pe_int (fun _ _ => rfl)) pe_str (nomark _)) (pw_or1 (pt_cmpR op_eq (pe_ix ix_tup (pv 2) pe_int (fun _ _ => rfl)) pe_str (nomark _))))) (pss_one (ps_ret pe_non)) pss_nil)
    (pss_cons (ps_if (PW.pt (pw_and (pt_cmpR op_eq (pe_ix ix_tup (pv 2) pe_int (fun _ _ => rfl)) pe_str (nomark _)) (pw_and1 (pt_cmpR oGt (pe_op oSub (pe_ix ix_tup (pv 2) pe_int (fun _ _ => rfl)) (pe_ix ix_tup (pv 2) pe_int (fun _ _ => rfl))) pe_int (nomark _))))) (pss_one (ps_ret pe_str)) pss_nil)
    (pss_cons (ps_if (PW.pt (pw_and (pt_cmpR op_eq (pe_ix ix_tup (pv 2) pe_int (fun _ _ => rfl)) (pe_ix ix_tup (pv 2) pe_int (fun _ _ => rfl)) (nomark _)) (pw_and1 (PW.pt (pw_or (pt_cmpR op_eq (pe_ix ix_tup (pv 2) pe_int (fun _ _ => rfl)) pe_str (nomark _)) (pw_or1 (pt_cmpR op_eq (pe_ix ix_tup (pv 2) pe_int (fun _ _ => rfl)) pe_str (nomark _)))))))) (pss_one (ps_ret pe_str)) pss_nil)
    (pss_one (ps_ret (pe_callC c_l_due11 hr (by omega) rfl pass_own (pa_cons (pv 0) (pa_cons (pe_ix ix_tup (pv 2) pe_int (fun _ _ => rfl)) (pa_cons (pe_ix ix_tup (pv 2) pe_int (fun _ _ => rfl)) (pa_cons (pe_ix ix_tup (pv 2) pe_int (fun _ _ => rfl)) pa_nil))))))))))))
theorem sc_l_deed_by : FnScope ["_law_one", "_law_two", "_law_runs", "_law_many", "_law_words", "_law_word", "_law_low", "_law_number", "_law_high"] ["_law_one", "_law_two", "_law_runs", "_law_many"] (defScope st_l_deed_by) := ⟨rfl, rfl, rfl, by decide +kernel, rfl, by decide +kernel, by decide +kernel⟩
theorem d_l_deed_by {P : Program} {w : World} {K : PySem.W.Frag} {mg : Str → Option Value} {base : Heap} {k : Nat} {s_l_end_by14 : Sp} {s_l_number_by : Sp} {s_l_made : Sp}
    {k_l_end_by14 : Nat} (c_l_end_by14 : Cal P w K mg base k_l_end_by14 "_law_end_by" ["_law_cell", "_law_runs", "_law_many"] s_l_end_by14) (h_l_end_by14 : k_l_end_by14 ≤ k) {k_l_number_by : Nat} (c_l_number_by : Cal P w K mg base k_l_number_by "_law_number_by" ["_law_cell"] s_l_number_by) (h_l_number_by : k_l_number_by ≤ k) {k_l_made : Nat} (c_l_made : Cal P w K mg base k_l_made "_law_made" ["_law_word", "_law_low", "_law_high", "_law_number"] s_l_made) (h_l_made : k_l_made ≤ k) (z_len : mg "len" = none)
    (f : Addr) (cdv : Value) (A : Around) (outer : List Env) (s : Shared) (H : Hp) (E : XK) (hr : Room k (A.deeper (envOfC "_law_deed_by" (defScope st_l_deed_by) s.heap.objs.size f cdv))) :
    PSs (cxOf (L2.CX P w) P w K mg base ["_law_one", "_law_two", "_law_runs", "_law_many", "_law_words", "_law_word", "_law_low", "_law_number", "_law_high"] "_law_deed_by" (defScope st_l_deed_by) f cdv A outer s H E) (defBody st_l_deed_by) (t_l_deed_by K s_l_end_by14 s_l_number_by s_l_made E) :=
  (pss_cons (ps_set (i := 4) sc_l_deed_by.nd rfl (Or.inl rfl) (pe_lst (pa_cons pe_str (pa_cons pe_str (pa_cons pe_str (pa_cons pe_str (pa_cons pe_str (pa_cons pe_str (pa_cons pe_str (pa_cons pe_str (pa_cons pe_str pa_nil)))))))))))
    (pss_cons (ps_set (i := 5) sc_l_deed_by.nd rfl (Or.inl rfl) (pe_ix ix_list (pv 4) (pe_op oMod (pv 0) pe_int) (fun _ _ => rfl)))
    (pss_cons (ps_if (pt_cmpR op_eq (pv 5) pe_str (nomark _)) (pss_one (ps_ret (pe_tup (pa_cons pe_str pa_nil)))) pss_nil)
    (pss_cons (ps_set (i := 6) sc_l_deed_by.nd rfl (Or.inl rfl) (pe_callC c_l_end_by14 hr (by omega) rfl pass_own (pa_cons (pe_op oDiv (pv 0) pe_int) (pa_cons (pv 2) (pa_cons (pv 3) pa_nil)))))
    (pss_cons (ps_set (i := 7) sc_l_deed_by.nd rfl (Or.inl rfl) (pe_callC c_l_number_by hr (by omega) rfl pass_own (pa_cons (pv 1) pa_nil)))
    (pss_cons (ps_if (pt_cmpR op_eq (pv 5) pe_str (nomark _)) (pss_one (ps_ret (pe_tup (pa_cons (pv 5) (pa_cons (pv 6) (pa_cons (pe_ix ix_list (pe_lst (pa_cons (pv 7) (pa_cons (pe_op oSub (pe_op oAdd (pe_ix ix_tup (pe_ix ix_list (pv 2) (pe_op oMod (pe_op oDiv (pv 1) pe_int) (pe_callB cLen rfl z_len boot_len (pa_cons (pv 2) pa_nil))) (fun _ _ => rfl)) pe_int (fun _ _ => rfl)) (pe_op oMod (pv 1) pe_int)) pe_int) pa_nil))) (pe_op oMod (pe_op oDiv (pv 1) pe_int) pe_int) (fun _ _ => rfl)) pa_nil)))))) pss_nil)
    (pss_cons (ps_set (i := 8) sc_l_deed_by.nd rfl (Or.inl rfl) (pe_callC c_l_end_by14 hr (by omega) rfl pass_own (pa_cons (pe_op oDiv (pv 1) pe_int) (pa_cons (pv 2) (pa_cons (pv 3) pa_nil)))))
    (pss_cons (ps_if (PW.pt (pw_and (pt_cmpR op_eq (pv 5) pe_str (nomark _)) (pw_and1 (pt_cmpR op_eq (pe_op oMod (pv 1) pe_int) pe_int (nomark _))))) (pss_one (ps_ret (pe_tup (pa_cons pe_str (pa_cons (pv 6) (pa_cons (pe_op oAdd (pe_op oAdd (pv 6) pe_int) (pe_op oMod (pe_op oDiv (pv 1) pe_int) pe_int)) pa_nil)))))) pss_nil)
    (pss_cons (ps_if (PW.pt (pw_and (pt_cmpR oGt (pe_op oMod (pv 1) pe_int) pe_int (nomark _)) (pw_and1 (pt_cmpR oLt (pv 8) (pv 6) (nomark _))))) (pss_one (ps_ret (pe_callC c_l_made hr (by omega) rfl pass_own (pa_cons (pv 5) (pa_cons (pv 8) (pa_cons (pv 6) (pa_cons (pv 7) pa_nil))))))) pss_nil)
    (pss_one (ps_ret (pe_callC c_l_made hr (by omega) rfl pass_own (pa_cons (pv 5) (pa_cons (pv 6) (pa_cons (pv 8) (pa_cons (pv 7) pa_nil))))))))))))))))
theorem sc_l_made : FnScope ["_law_word", "_law_low", "_law_high", "_law_number"] ["_law_word", "_law_low", "_law_high", "_law_number"] (defScope st_l_made) := ⟨rfl, rfl, rfl, by decide +kernel, rfl, by decide +kernel, by decide +kernel⟩
theorem d_l_made {P : Program} {w : World} {K : PySem.W.Frag} {mg : Str → Option Value} {base : Heap} {k : Nat} 
    
    (f : Addr) (cdv : Value) (A : Around) (outer : List Env) (s : Shared) (H : Hp) (E : XK) (hr : Room k (A.deeper (envOfC "_law_made" (defScope st_l_made) s.heap.objs.size f cdv))) :
    PSs (cxOf (L2.CX P w) P w K mg base ["_law_word", "_law_low", "_law_high", "_law_number"] "_law_made" (defScope st_l_made) f cdv A outer s H E) (defBody st_l_made) (t_l_made  E) :=
  (pss_cons (ps_if (PW.pt (pw_or (pt_cmpR op_eq (pv 0) pe_str (nomark _)) (pw_or1 (pt_cmpR op_eq (pv 0) pe_str (nomark _))))) (pss_one (ps_ret (pe_tup (pa_cons (pv 0) (pa_cons (pv 1) (pa_cons (pv 2) (pa_cons (pv 3) pa_nil))))))) pss_nil)
    (pss_one (ps_ret (pe_tup (pa_cons (pv 0) (pa_cons (pv 1) (pa_cons (pv 2) pa_nil)))))))
theorem sc_l_run : FnScope ["_law_script", "_law_k"] ["_law_script", "_law_k"] (defScope st_l_run) := ⟨rfl, rfl, rfl, by decide +kernel, rfl, by decide +kernel, by decide +kernel⟩
theorem d_l_run {P : Program} {w : World} {K : PySem.W.Frag} {mg : Str → Option Value} {base : Heap} {k : Nat} {s_l_cell_at : Sp}
    {k_l_cell_at : Nat} (c_l_cell_at : Cal P w K mg base k_l_cell_at "_law_cell_at" ["_law_script", "_law_k"] s_l_cell_at) (h_l_cell_at : k_l_cell_at ≤ k)
    (f : Addr) (cdv : Value) (A : Around) (outer : List Env) (s : Shared) (H : Hp) (E : XK) (hr : Room k (A.deeper (envOfC "_law_run" (defScope st_l_run) s.heap.objs.size f cdv))) :
    PSs (cxOf (L2.CX P w) P w K mg base ["_law_script", "_law_k"] "_law_run" (defScope st_l_run) f cdv A outer s H E) (defBody st_l_run) (t_l_run s_l_cell_at E) :=
  (pss_cons (ps_if (pt_cmpR op_eq (pe_op oMod (pe_op oDiv (pe_callC c_l_cell_at hr (by omega) rfl pass_own (pa_cons (pv 0) (pa_cons pe_int pa_nil))) pe_int) pe_int) pe_int (nomark _)) (pss_one (ps_ret (pe_op oMod (pe_op oDiv (pe_callC c_l_cell_at hr (by omega) rfl pass_own (pa_cons (pv 0) (pa_cons (pv 1) pa_nil))) pe_int) pe_int))) pss_nil)
    (pss_one (ps_ret pe_int)))
theorem sc_l_noted : FnScope ["_law_deed", "_law_deeds", "_law_due_here", "_law_ahead", "_law_many"] ["_law_deed", "_law_deeds", "_law_due_here", "_law_ahead", "_law_many"] (defScope st_l_noted) := ⟨rfl, rfl, rfl, by decide +kernel, rfl, by decide +kernel, by decide +kernel⟩
theorem d_l_noted {P : Program} {w : World} {K : PySem.W.Frag} {mg : Str → Option Value} {base : Heap} {k : Nat} {s_l_answer : Sp} {s_l_changed11 : Sp}
    {k_l_answer : Nat} (c_l_answer : Cal P w K mg base k_l_answer "_law_answer" ["_law_runs", "_law_many", "_law_deed"] s_l_answer) (h_l_answer : k_l_answer ≤ k) {k_l_changed11 : Nat} (c_l_changed11 : Cal P w K mg base k_l_changed11 "_law_changed" ["_law_runs", "_law_word", "_law_low", "_law_high", "_law_number"] s_l_changed11) (h_l_changed11 : k_l_changed11 ≤ k) (z_len : mg "len" = none) (z_int : mg "int" = none)
    (f : Addr) (cdv : Value) (A : Around) (outer : List Env) (s : Shared) (H : Hp) (E : XK) (hr : Room k (A.deeper (envOfC "_law_noted" (defScope st_l_noted) s.heap.objs.size f cdv))) :
    PSs (cxOf (L2.CX P w) P w K mg base ["_law_deed", "_law_deeds", "_law_due_here", "_law_ahead", "_law_many"] "_law_noted" (defScope st_l_noted) f cdv A outer s H E) (defBody st_l_noted) (t_l_noted K s_l_answer s_l_changed11 E) :=
  (pss_cons (ps_expr (pe_bm PySem.F.plainAttrs_list PySem.F.slot_list_append PySem.F.type_list_append mt_append (pv 1) (pa_cons (pv 0) pa_nil)))
    (pss_one (ps_if (pt_cmpR op_eq (pe_ix ix_tup (pv 0) pe_int (fun _ _ => rfl)) pe_str (nomark _)) (pss_cons (ps_expr (pe_bm PySem.F.plainAttrs_list PySem.F.slot_list_append PySem.F.type_list_append mt_append (pv 2) (pa_cons (pe_ix ix_list (pe_lst (pa_cons pe_str (pa_cons pe_non pa_nil))) (pe_callTy cInt rfl z_int (by decide +kernel) (pa_cons (pe_cmpR oGt (pe_callB cLen rfl z_len boot_len (pa_cons (pv 3) pa_nil)) pe_int (nomark _)) pa_nil)) (fun _ _ => rfl)) pa_nil)))
    (pss_one (ps_if (pt_cmpR oGt (pe_callB cLen rfl z_len boot_len (pa_cons (pv 3) pa_nil)) pe_int (nomark _)) (pss_one (ps_expr (pe_bm0 PySem.F.plainAttrs_list PySem.F.slot_list_pop PySem.F.type_list_pop mt_pop (pv 3)))) pss_nil))) (pss_cons (ps_expr (pe_bm PySem.F.plainAttrs_list PySem.F.slot_list_append PySem.F.type_list_append mt_append (pv 2) (pa_cons (pe_callC c_l_answer hr (by omega) rfl pass_own (pa_cons (pe_ix ix_list (pv 3) (pe_un oNeg pe_int) (fun _ _ => rfl)) (pa_cons (pv 4) (pa_cons (pv 0) pa_nil)))) pa_nil)))
    (pss_one (ps_if (PW.pt (pw_and (pt_cmpR oIs (pe_ix ix_list (pv 2) (pe_un oNeg pe_int) (fun _ _ => rfl)) pe_non (nomark _)) (pw_and1 (PW.pt (pw_or (pt_cmpR op_eq (pe_ix ix_tup (pv 0) pe_int (fun _ _ => rfl)) pe_str (nomark _)) (pw_or1 (pt_cmpR op_eq (pe_ix ix_tup (pv 0) pe_int (fun _ _ => rfl)) pe_str (nomark _)))))))) (pss_one (ps_expr (pe_bm PySem.F.plainAttrs_list PySem.F.slot_list_append PySem.F.type_list_append mt_append (pv 3) (pa_cons (pe_callC c_l_changed11 hr (by omega) rfl pass_own (pa_cons (pe_ix ix_list (pv 3) (pe_un oNeg pe_int) (fun _ _ => rfl)) (pa_cons (pe_ix ix_tup (pv 0) pe_int (fun _ _ => rfl)) (pa_cons (pe_ix ix_tup (pv 0) pe_int (fun _ _ => rfl)) (pa_cons (pe_ix ix_tup (pv 0) pe_int (fun _ _ => rfl)) (pa_cons (pe_ix ix_tup (pv 0) pe_int (fun _ _ => rfl)) pa_nil)))))) pa_nil)))) pss_nil))))))
theorem sc_l_start : FnScope ["_law_script", "_law_many", "_law_row", "_law_book", "_law_runs", "_law_k"] ["_law_script"] (defScope st_l_start) := ⟨rfl, rfl, rfl, by decide +kernel, rfl, by decide +kernel, by decide +kernel⟩
theorem d_l_start {P : Program} {w : World} {K : PySem.W.Frag} {mg : Str → Option Value} {base : Heap} {k : Nat} {s_l_cell_at : Sp} {s_l_number_by : Sp} {s_made : Sp} {s_even : Sp} {s_added : Sp} {s_l_changed11 : Sp}
    {k_l_cell_at : Nat} (c_l_cell_at : Cal P w K mg base k_l_cell_at "_law_cell_at" ["_law_script", "_law_k"] s_l_cell_at) (h_l_cell_at : k_l_cell_at ≤ k) {k_l_number_by : Nat} (c_l_number_by : Cal P w K mg base k_l_number_by "_law_number_by" ["_law_cell"] s_l_number_by) (h_l_number_by : k_l_number_by ≤ k) {k_made : Nat} (c_made : Cal P w K mg base k_made "made" ["numbers"] s_made) (h_made : k_made ≤ k) {k_even : Nat} (c_even : Cal P w K mg base k_even "even" ["many", "number"] s_even) (h_even : k_even ≤ k) {k_added : Nat} (c_added : Cal P w K mg base k_added "added" ["book", "low", "high", "by"] s_added) (h_added : k_added ≤ k) {k_l_changed11 : Nat} (c_l_changed11 : Cal P w K mg base k_l_changed11 "_law_changed" ["_law_runs", "_law_word", "_law_low", "_law_high", "_law_number"] s_l_changed11) (h_l_changed11 : k_l_changed11 ≤ k) (z_range : mg "range" = none)
    (f : Addr) (cdv : Value) (A : Around) (outer : List Env) (s : Shared) (H : Hp) (E : XK) (hr : Room k (A.deeper (envOfC "_law_start" (defScope st_l_start) s.heap.objs.size f cdv))) :
    PSs (cxOf (L2.CX P w) P w K mg base ["_law_script", "_law_many", "_law_row", "_law_book", "_law_runs", "_law_k"] "_law_start" (defScope st_l_start) f cdv A outer s H E) (defBody st_l_start) (t_l_start K s_l_cell_at s_l_number_by s_made s_even s_added s_l_changed11 E) :=
  (pss_cons (ps_set (i := 1) sc_l_start.nd rfl (Or.inl rfl) (pe_op oMod (pe_op oDiv (pe_callC c_l_cell_at hr (by omega) rfl pass_own (pa_cons (pv 0) (pa_cons pe_int pa_nil))) pe_int) pe_int))
    (pss_cons (ps_if (pt_cmpR op_eq (pe_op oMod (pe_op oDiv (pe_callC c_l_cell_at hr (by omega) rfl pass_own (pa_cons (pv 0) (pa_cons pe_int pa_nil))) pe_int) pe_int) pe_int (nomark _)) (pss_one (ps_set (i := 1) sc_l_start.nd rfl (Or.inl rfl) (pe_op oMod (pe_op oDiv (pe_callC c_l_cell_at hr (by omega) rfl pass_own (pa_cons (pv 0) (pa_cons pe_int pa_nil))) pe_int) pe_int))) pss_nil)
    (pss_cons (ps_set (i := 2) sc_l_start.nd rfl (Or.inr rfl) (pe_lc (own := [("_law_k", 5)]) (g := gName 5) (tt := tYes) (te := (tCall s_l_number_by [] E0 (tCons (tOp nAdd (tCall s_l_cell_at [] E0 (tCons (tVar 0) (tCons (tC (.int 1)) tNil))) (tOp nMul (tVar 5) (tCall s_l_cell_at [] E0 (tCons (tVar 0) (tCons (tC (.int 2)) tNil))))) tNil))) rfl sc_l_start.nd (pi_range1 rfl z_range (pa_cons (pv 1) pa_nil)) (blkOk_by (own := [("_law_k", 5)]) (N := ["_law_script", "_law_many", "_law_row", "_law_book", "_law_runs", "_law_k"]) (sc := defScope st_l_start) (by decide +kernel)) (fun _ _ _ _ _ => pg_name (i := 5) sc_l_start.nd rfl (Or.inl rfl)) (fun _ _ _ _ _ => pts_nil) (fun _ _ _ _ _ => (pe_callC c_l_number_by hr (by omega) rfl passL (pa_cons (pe_op oAdd (pe_callC c_l_cell_at hr (by omega) rfl passL (pa_cons (pv 0) (pa_cons pe_int pa_nil))) (pe_op oMul (pv 5) (pe_callC c_l_cell_at hr (by omega) rfl passL (pa_cons (pv 0) (pa_cons pe_int pa_nil))))) pa_nil)))))
    (pss_cons (ps_set (i := 3) sc_l_start.nd rfl (Or.inl rfl) (pe_callC c_made hr (by omega) rfl pass_own (pa_cons (pv 2) pa_nil)))
    (pss_cons (ps_setLc (i := 4) (own := [("_law_k", 5)]) (g := gName 5) (tt := tYes) (te := (tTup (tCons (tVar 5) (tCons (tOp nAdd (tVar 5) (tC (.int 1))) (tCons (tOp (rIxL K) (tVar 2) (tVar 5)) tNil))))) rfl sc_l_start.nd rfl rfl rfl  (pi_range1 rfl z_range (pa_cons (pv 1) pa_nil)) (blkOk_by (own := [("_law_k", 5)]) (N := ["_law_script", "_law_many", "_law_row", "_law_book", "_law_runs", "_law_k"]) (sc := defScope st_l_start) (by decide +kernel)) (fun _ _ _ _ _ => pg_name (i := 5) sc_l_start.nd rfl (Or.inl rfl)) (fun _ _ _ _ _ => pts_nil) (fun _ _ _ _ _ => (pe_tup (pa_cons (pv 5) (pa_cons (pe_op oAdd (pv 5) pe_int) (pa_cons (pe_ix ix_list (pv 2) (pv 5) (fun _ _ => rfl)) pa_nil))))))
    (pss_cons (ps_if (pt_cmpR op_eq (pv 1) pe_int (nomark _)) (pss_one (ps_set (i := 4) sc_l_start.nd rfl (Or.inl rfl) (pe_lst (pa_cons (pe_tup (pa_cons pe_int (pa_cons pe_int (pa_cons pe_int pa_nil)))) pa_nil)))) pss_nil)
    (pss_cons (ps_if (pt_cmpR op_eq (pe_op oMod (pe_callC c_l_cell_at hr (by omega) rfl pass_own (pa_cons (pv 0) (pa_cons pe_int pa_nil))) pe_int) pe_int (nomark _)) (pss_cons (ps_set (i := 1) sc_l_start.nd rfl (Or.inl rfl) (pe_op oMod (pe_op oDiv (pe_callC c_l_cell_at hr (by omega) rfl pass_own (pa_cons (pv 0) (pa_cons pe_int pa_nil))) pe_int) (pe_op oAdd (pe_op oPow pe_int pe_int) pe_int)))
    (pss_cons (ps_if (pt_cmpR op_eq (pe_op oMod (pe_callC c_l_cell_at hr (by omega) rfl pass_own (pa_cons (pv 0) (pa_cons pe_int pa_nil))) pe_int) pe_int (nomark _)) (pss_one (ps_set (i := 1) sc_l_start.nd rfl (Or.inl rfl) (pe_op oMod (pe_op oDiv (pe_callC c_l_cell_at hr (by omega) rfl pass_own (pa_cons (pv 0) (pa_cons pe_int pa_nil))) pe_int) pe_int))) pss_nil)
    (pss_cons (ps_set (i := 3) sc_l_start.nd rfl (Or.inl rfl) (pe_callC c_even hr (by omega) rfl pass_own (pa_cons (pv 1) (pa_cons (pe_callC c_l_number_by hr (by omega) rfl pass_own (pa_cons (pe_callC c_l_cell_at hr (by omega) rfl pass_own (pa_cons (pv 0) (pa_cons pe_int pa_nil))) pa_nil)) pa_nil))))
    (pss_one (ps_set (i := 4) sc_l_start.nd rfl (Or.inl rfl) (pe_lst (pa_cons (pe_tup (pa_cons pe_int (pa_cons (pv 1) (pa_cons (pe_callC c_l_number_by hr (by omega) rfl pass_own (pa_cons (pe_callC c_l_cell_at hr (by omega) rfl pass_own (pa_cons (pv 0) (pa_cons pe_int pa_nil))) pa_nil)) pa_nil)))) pa_nil))))))) pss_nil)
    (pss_cons (ps_if (pt_cmpR op_eq (pe_op oMod (pe_callC c_l_cell_at hr (by omega) rfl pass_own (pa_cons (pv 0) (pa_cons pe_int pa_nil))) pe_int) pe_int (nomark _)) (pss_cons (ps_set (i := 3) sc_l_start.nd rfl (Or.inl rfl) (pe_callC c_added hr (by omega) rfl pass_own (pa_cons (pv 3) (pa_cons (pe_op oDiv (pv 1) pe_int) (pa_cons (pv 1) (pa_cons pe_int pa_nil))))))
    (pss_one (ps_set (i := 4) sc_l_start.nd rfl (Or.inl rfl) (pe_callC c_l_changed11 hr (by omega) rfl pass_own (pa_cons (pv 4) (pa_cons pe_str (pa_cons (pe_op oDiv (pv 1) pe_int) (pa_cons (pv 1) (pa_cons pe_int pa_nil))))))))) pss_nil)
    (pss_one (ps_ret (pe_tup (pa_cons (pv 3) (pa_cons (pv 4) (pa_cons (pv 1) pa_nil))))))))))))))
theorem sc_law_k14 : FnScope ["_law_script", "_law_start_here", "_law_book", "_law_runs", "_law_many", "_law_ahead", "_law_deeds", "_law_due_here", "_law_k", "_law_handed", "_law_held", "_law_turn", "_law_found", "_law_pair"] ["_law_script"] (defScope st_law_k14) := ⟨rfl, rfl, rfl, by decide +kernel, rfl, by decide +kernel, by decide +kernel⟩
theorem d_law_k14 {P : Program} {w : World} {K : PySem.W.Frag} {mg : Str → Option Value} {base : Heap} {k : Nat} {s_l_start : Sp} {s_l_run : Sp} {s_l_noted : Sp} {s_l_deed_by : Sp} {s_answers : Sp} {s_l_alike10 : Sp} {s_length : Sp} {s_l_due11 : Sp} {s_total : Sp}
    {k_l_start : Nat} (c_l_start : Cal P w K mg base k_l_start "_law_start" ["_law_script"] s_l_start) (h_l_start : k_l_start ≤ k) {k_l_run : Nat} (c_l_run : Cal P w K mg base k_l_run "_law_run" ["_law_script", "_law_k"] s_l_run) (h_l_run : k_l_run ≤ k) {k_l_noted : Nat} (c_l_noted : Cal P w K mg base k_l_noted "_law_noted" ["_law_deed", "_law_deeds", "_law_due_here", "_law_ahead", "_law_many"] s_l_noted) (h_l_noted : k_l_noted ≤ k) {k_l_deed_by : Nat} (c_l_deed_by : Cal P w K mg base k_l_deed_by "_law_deed_by" ["_law_one", "_law_two", "_law_runs", "_law_many"] s_l_deed_by) (h_l_deed_by : k_l_deed_by ≤ k) {k_answers : Nat} (c_answers : Cal P w K mg base k_answers "answers" ["book", "deeds"] s_answers) (h_answers : k_answers ≤ k) {k_l_alike10 : Nat} (c_l_alike10 : Cal P w K mg base k_l_alike10 "_law_alike" ["_law_found", "_law_due_here"] s_l_alike10) (h_l_alike10 : k_l_alike10 ≤ k) {k_length : Nat} (c_length : Cal P w K mg base k_length "length" ["book"] s_length) (h_length : k_length ≤ k) {k_l_due11 : Nat} (c_l_due11 : Cal P w K mg base k_l_due11 "_law_due" ["_law_runs", "_law_word", "_law_low", "_law_high"] s_l_due11) (h_l_due11 : k_l_due11 ≤ k) {k_total : Nat} (c_total : Cal P w K mg base k_total "total" ["book", "low", "high"] s_total) (h_total : k_total ≤ k) (z_range : mg "range" = none) (z_len : mg "len" = none) (z_min : mg "min" = none) (z_list : mg "list" = none) (z_isinstance : mg "isinstance" = none)
    (f : Addr) (cdv : Value) (A : Around) (outer : List Env) (s : Shared) (H : Hp) (E : XK) (hr : Room k (A.deeper (envOfC "law" (defScope st_law_k14) s.heap.objs.size f cdv))) :
    PSs (cxOf (L2.CX P w) P w K mg base ["_law_script", "_law_start_here", "_law_book", "_law_runs", "_law_many", "_law_ahead", "_law_deeds", "_law_due_here", "_law_k", "_law_handed", "_law_held", "_law_turn", "_law_found", "_law_pair"] "law" (defScope st_law_k14) f cdv A outer s H E) (defBody st_law_k14) (t_law_k14 K s_l_start s_l_run s_l_noted s_l_deed_by s_answers s_l_alike10 s_length s_l_due11 s_total E) :=
  (pss_cons (ps_set (i := 1) sc_law_k14.nd rfl (Or.inl rfl) (pe_callC c_l_start hr (by omega) rfl pass_own (pa_cons (pv 0) pa_nil)))
    (pss_cons (ps_set (i := 2) sc_law_k14.nd rfl (Or.inl rfl) (pe_ix ix_tup (pv 1) pe_int (fun _ _ => rfl)))
    (pss_cons (ps_set (i := 3) sc_law_k14.nd rfl (Or.inl rfl) (pe_ix ix_tup (pv 1) pe_int (fun _ _ => rfl)))
    (pss_cons (ps_set (i := 4) sc_law_k14.nd rfl (Or.inl rfl) (pe_ix ix_tup (pv 1) pe_int (fun _ _ => rfl)))
    (pss_cons (ps_set (i := 5) sc_law_k14.nd rfl (Or.inl rfl) (pe_lst (pa_cons (pv 3) pa_nil)))
    (pss_cons (ps_set (i := 6) sc_law_k14.nd rfl (Or.inl rfl) (pe_lst pa_nil))
    (pss_cons (ps_set (i := 7) sc_law_k14.nd rfl (Or.inl rfl) (pe_lst pa_nil))
    (pss_cons (ps_for (passes_of rfl) rfl (pi_range1 rfl z_range (pa_cons (pe_callC c_l_run hr (by omega) rfl pass_own (pa_cons (pv 0) (pa_cons pe_int pa_nil))) pa_nil)) (pg_name (i := 8) sc_law_k14.nd rfl (Or.inl rfl))
    (pss_one (ps_expr (pe_callC c_l_noted hr (by omega) rfl pass_own (pa_cons (pe_tup (pa_cons pe_str (pa_cons (pe_op oMul (pe_op oDiv (pv 4) pe_int) (pe_op oMod (pv 8) pe_int)) (pa_cons (pv 4) (pa_cons (pe_op oAdd (pv 8) pe_int) pa_nil))))) (pa_cons (pv 6) (pa_cons (pv 7) (pa_cons (pv 5) (pa_cons (pv 4) pa_nil)))))))))
    (pss_cons (ps_for (passes_of rfl) rfl (pi_range3 rfl z_range (pa_cons pe_int (pa_cons (pe_op oSub (pe_callB (cMin rfl) rfl z_min (by decide +kernel) (pa_cons (pe_callB cLen rfl z_len boot_len (pa_cons (pv 0) pa_nil)) (pa_cons pe_int pa_nil))) pe_int) (pa_cons pe_int pa_nil)))) (pg_name (i := 8) sc_law_k14.nd rfl (Or.inl rfl))
    (pss_one (ps_expr (pe_callC c_l_noted hr (by omega) rfl pass_own (pa_cons (pe_callC c_l_deed_by hr (by omega) rfl pass_own (pa_cons (pe_ix ix_list (pv 0) (pv 8) (fun _ _ => rfl)) (pa_cons (pe_ix ix_list (pv 0) (pe_op oAdd (pv 8) pe_int) (fun _ _ => rfl)) (pa_cons (pe_ix ix_list (pv 5) (pe_un oNeg pe_int) (fun _ _ => rfl)) (pa_cons (pv 4) pa_nil))))) (pa_cons (pv 6) (pa_cons (pv 7) (pa_cons (pv 5) (pa_cons (pv 4) pa_nil)))))))))
    (pss_cons (ps_for (passes_of rfl) rfl (pi_range1 rfl z_range (pa_cons (pe_callC c_l_run hr (by omega) rfl pass_own (pa_cons (pv 0) (pa_cons pe_int pa_nil))) pa_nil)) (pg_name (i := 8) sc_law_k14.nd rfl (Or.inl rfl))
    (pss_cons (ps_expr (pe_callC c_l_noted hr (by omega) rfl pass_own (pa_cons (pe_tup (pa_cons pe_str pa_nil)) (pa_cons (pv 6) (pa_cons (pv 7) (pa_cons (pv 5) (pa_cons (pv 4) pa_nil)))))))
    (pss_one (ps_expr (pe_callC c_l_noted hr (by omega) rfl pass_own (pa_cons (pe_tup (pa_cons pe_str (pa_cons pe_int (pa_cons (pv 4) pa_nil)))) (pa_cons (pv 6) (pa_cons (pv 7) (pa_cons (pv 5) (pa_cons (pv 4) pa_nil))))))))))
    (pss_cons (ps_set (i := 9) sc_law_k14.nd rfl (Or.inl rfl) (pe_callTy cList rfl z_list (by decide +kernel) (pa_cons (pv 6) pa_nil)))
    (pss_cons (ps_set (i := 10) sc_law_k14.nd rfl (Or.inl rfl) (pe_lst pa_nil))
    (pss_cons (ps_for (passes_of rfl) rfl (pi_list (pe_lst (pa_cons pe_int (pa_cons pe_int pa_nil)))) (pg_name (i := 11) sc_law_k14.nd rfl (Or.inl rfl))
    (pss_cons (ps_set (i := 12) sc_law_k14.nd rfl (Or.inl rfl) (pe_callC c_answers hr (by omega) rfl pass_own (pa_cons (pv 2) (pa_cons (pv 9) pa_nil))))
    (pss_cons (ps_if (PW.pt (pw_or (pt_not (pt_val (pe_callB call_isi rfl z_isinstance (by decide +kernel) (pa_cons (pv 12) (pa_cons (pe_bltn (v := .ty "list") rfl z_list boot_list rfl) pa_nil))))) (pw_or (pt_cmpR op_ne (pe_callB cLen rfl z_len boot_len (pa_cons (pv 12) pa_nil)) (pe_callB cLen rfl z_len boot_len (pa_cons (pv 7) pa_nil)) (nomark _)) (pw_or1 (pt_cmpR (op_neD hr.units) (pv 9) (pv 6) (nomark _)))))) (pss_one (ps_ret pe_bl)) pss_nil)
    (pss_cons (ps_for (passes_of rfl) rfl (pi_range1 rfl z_range (pa_cons (pe_callB cLen rfl z_len boot_len (pa_cons (pv 7) pa_nil)) pa_nil)) (pg_name (i := 8) sc_law_k14.nd rfl (Or.inl rfl))
    (pss_cons (ps_if (pt_not (pt_val (pe_callC c_l_alike10 hr (by omega) rfl pass_own (pa_cons (pe_ix ix_list (pv 12) (pv 8) (fun _ _ => rfl)) (pa_cons (pe_ix ix_list (pv 7) (pv 8) (fun _ _ => rfl)) pa_nil))))) (pss_one (ps_ret pe_bl)) pss_nil)
    (pss_one (ps_if (pt_val (pe_callB call_isi rfl z_isinstance (by decide +kernel) (pa_cons (pe_ix ix_list (pv 12) (pv 8) (fun _ _ => rfl)) (pa_cons (pe_bltn (v := .ty "list") rfl z_list boot_list rfl) pa_nil)))) (pss_cons (ps_expr (pe_bm PySem.F.plainAttrs_list PySem.F.slot_list_append PySem.F.type_list_append mt_append (pe_ix ix_list (pv 12) (pv 8) (fun _ _ => rfl)) (pa_cons (pv 11) pa_nil)))
    (pss_one (ps_expr (pe_bm PySem.F.plainAttrs_list PySem.F.slot_list_append PySem.F.type_list_append mt_append (pv 10) (pa_cons (pe_tup (pa_cons (pe_ix ix_list (pv 12) (pv 8) (fun _ _ => rfl)) (pa_cons (pe_callTy cList rfl z_list (by decide +kernel) (pa_cons (pe_ix ix_list (pv 12) (pv 8) (fun _ _ => rfl)) pa_nil)) pa_nil))) pa_nil))))) pss_nil))))
    (pss_cons (ps_expr (pe_bm PySem.F.plainAttrs_list PySem.F.slot_list_append PySem.F.type_list_append mt_append (pv 12) (pa_cons (pv 11) pa_nil)))
    (pss_one (ps_expr (pe_bm PySem.F.plainAttrs_list PySem.F.slot_list_append PySem.F.type_list_append mt_append (pv 10) (pa_cons (pe_tup (pa_cons (pv 12) (pa_cons (pe_callTy cList rfl z_list (by decide +kernel) (pa_cons (pv 12) pa_nil)) pa_nil))) pa_nil)))))))))
    (pss_cons (ps_if (pt_cmpR (op_neD hr.units) (pe_lc (own := [("_law_pair", 13)]) (g := gName 13) (tt := (tTest (tOp (rNeD K) (tOp (rIxT K) (tVar 13) (tC (.int 0))) (tOp (rIxT K) (tVar 13) (tC (.int 1)))))) (te := (tVar 13)) rfl sc_law_k14.nd (pi_list (pv 10)) (blkOk_by (own := [("_law_pair", 13)]) (N := ["_law_script", "_law_start_here", "_law_book", "_law_runs", "_law_many", "_law_ahead", "_law_deeds", "_law_due_here", "_law_k", "_law_handed", "_law_held", "_law_turn", "_law_found", "_law_pair"]) (sc := defScope st_law_k14) (by decide +kernel)) (fun _ _ _ _ _ => pg_name (i := 13) sc_law_k14.nd rfl (Or.inl rfl)) (fun _ _ _ _ _ => (pts_one (pt_cmpR (op_neD hr.units) (pe_ix ix_tup (pv 13) pe_int (fun _ _ => rfl)) (pe_ix ix_tup (pv 13) pe_int (fun _ _ => rfl)) (nomark _)))) (fun _ _ _ _ _ => (pv 13))) (pe_lst pa_nil) (nomark _)) (pss_one (ps_ret pe_bl)) pss_nil)
    (pss_cons (ps_if (pt_not (pt_val (pe_callC c_l_alike10 hr (by omega) rfl pass_own (pa_cons (pe_callC c_length hr (by omega) rfl pass_own (pa_cons (pv 2) pa_nil)) (pa_cons (pv 4) pa_nil))))) (pss_one (ps_ret pe_bl)) pss_nil)
    (pss_one (ps_ret (pe_callC c_l_alike10 hr (by omega) rfl pass_own (pa_cons (pe_callC c_total hr (by omega) rfl pass_own (pa_cons (pv 2) (pa_cons pe_int (pa_cons (pv 4) pa_nil)))) (pa_cons (pe_callC c_l_due11 hr (by omega) rfl pass_own (pa_cons (pv 3) (pa_cons pe_str (pa_cons pe_int (pa_cons (pv 4) pa_nil))))) pa_nil))))))))))))))))))))
end RB
namespace RB
open PySem PySem.Spec PyProof.Rows L2 LamX NdefX
theorem run_k14 {P : Program} {w : World} {K : PySem.W.Frag} {mg : Str → Option Value} {base : Heap} {C C_OutOfRow C_Nothing C_NoRow C_TooMany : Addr} {ca_added_in Pt_added_in ca_filled_in Pt_filled_in : Addr} {T : List (Addr × Str)} {fa : Addr} {fd : FuncData}
    (M_Tree : MkAt K mg "Tree" "Tree.__init__" C st_Tree_init ["self", "many", "total", "least", "more", "left", "right"])
    (X : Tx K C)
    (D_check_stretch : DefAt K mg "check_stretch" st_check_stretch ["book", "low", "high"])
    (D_even_tree : DefAt K mg "even_tree" st_even_tree ["many", "number"])
    (D_joined : DefAt K mg "joined" st_joined ["left", "right", "more"])
    (D_tree_of : DefAt K mg "tree_of" st_tree_of ["numbers"])
    (D_raised : DefAt K mg "raised" st_raised ["tree", "by"])
    (D_halves : DefAt K mg "halves" st_halves ["tree"])
    (D_added_in : DefAtL K mg "added_in" st_added_in ["tree", "low", "high", "by"] ca_added_in) (TB_added_in : TabB base mg ca_added_in Pt_added_in) (hm_added_in : (Pt_added_in, q_added_in) ∈ T) (hu_added_in : ∀ p ∈ T, p.1 = Pt_added_in → p.2 = q_added_in)
    (D_filled_in : DefAtL K mg "filled_in" st_filled_in ["tree", "low", "high", "number"] ca_filled_in) (TB_filled_in : TabB base mg ca_filled_in Pt_filled_in) (hm_filled_in : (Pt_filled_in, q_filled_in) ∈ T) (hu_filled_in : ∀ p ∈ T, p.1 = Pt_filled_in → p.2 = q_filled_in)
    (D_changed : DefAt K mg "changed" st_changed ["tree", "low", "high", "change"])
    (D_total_in : DefAt K mg "total_in" st_total_in ["tree", "low", "high"])
    (D_least_in : DefAt K mg "least_in" st_least_in ["tree", "low", "high"])
    (D_first_in : DefAt K mg "first_in" st_first_in ["tree", "low", "bound"])
    (D_numbers_in : DefAtD K mg "numbers_in" st_numbers_in ["tree", "low", "high", "above"] [.int 0])
    (D_changed_in : DefAt K mg "changed_in" st_changed_in ["tree", "low", "high", "above", "change"])
    (D_total : DefAt K mg "total" st_total ["book", "low", "high"])
    (D_least : DefAt K mg "least" st_least ["book", "low", "high"])
    (D_place : DefAt K mg "place" st_place ["book", "low", "high"])
    (D_first : DefAt K mg "first" st_first ["book", "low", "bound"])
    (D_added : DefAt K mg "added" st_added ["book", "low", "high", "by"])
    (D_filled : DefAt K mg "filled" st_filled ["book", "low", "high", "number"])
    (D_made : DefAt K mg "made" st_made ["numbers"])
    (D_even : DefAt K mg "even" st_even ["many", "number"])
    (D_length : DefAt K mg "length" st_length ["book"])
    (D_listed : DefAt K mg "listed" st_listed ["book", "low", "high"])
    (D_answers : DefAt K mg "answers" st_answers ["book", "deeds"])
    (D_answer : DefAt K mg "answer" st_answer ["books", "deed"])
    (D_done : DefAt K mg "done" st_done ["books", "deed"])
    (D_go_back : DefAt K mg "go_back" st_go_back ["books"])
    (D_told : DefAt K mg "told" st_told ["book", "deed"])
    (D_l_whole : DefAt K mg "_law_whole" st_l_whole ["_law_found"])
    (D_l_cell_at : DefAt K mg "_law_cell_at" st_l_cell_at ["_law_script", "_law_k"])
    (D_l_number_by : DefAt K mg "_law_number_by" st_l_number_by ["_law_cell"])
    (D_l_cut : DefAt K mg "_law_cut" st_l_cut ["_law_runs", "_law_at"])
    (D_l_changed11 : DefAt K mg "_law_changed" st_l_changed11 ["_law_runs", "_law_word", "_law_low", "_law_high", "_law_number"])
    (D_l_within : DefAt K mg "_law_within" st_l_within ["_law_runs", "_law_low", "_law_high"])
    (D_l_due11 : DefAt K mg "_law_due" st_l_due11 ["_law_runs", "_law_word", "_law_low", "_law_high"])
    (D_l_first11 : DefAt K mg "_law_first" st_l_first11 ["_law_runs", "_law_low", "_law_bound"])
    (D_l_alike10 : DefAt K mg "_law_alike" st_l_alike10 ["_law_found", "_law_due_here"])
    (D_l_end_by14 : DefAt K mg "_law_end_by" st_l_end_by14 ["_law_cell", "_law_runs", "_law_many"])
    (D_l_answer : DefAt K mg "_law_answer" st_l_answer ["_law_runs", "_law_many", "_law_deed"])
    (D_l_deed_by : DefAt K mg "_law_deed_by" st_l_deed_by ["_law_one", "_law_two", "_law_runs", "_law_many"])
    (D_l_made : DefAt K mg "_law_made" st_l_made ["_law_word", "_law_low", "_law_high", "_law_number"])
    (D_l_run : DefAt K mg "_law_run" st_l_run ["_law_script", "_law_k"])
    (D_l_noted : DefAt K mg "_law_noted" st_l_noted ["_law_deed", "_law_deeds", "_law_due_here", "_law_ahead", "_law_many"])
    (D_l_start : DefAt K mg "_law_start" st_l_start ["_law_script"])
    (x_OutOfRow : ExcAt K mg "OutOfRow" C_OutOfRow)
    (x_Nothing : ExcAt K mg "Nothing" C_Nothing)
    (x_NoRow : ExcAt K mg "NoRow" C_NoRow)
    (x_TooMany : ExcAt K mg "TooMany" C_TooMany)
    (v_OutOfRow_OutOfRow : PySem.W.exmOne K (.ref C_OutOfRow) (.ref C_OutOfRow) = some true)
    (v_Nothing_OutOfRow : PySem.W.exmOne K (.ref C_Nothing) (.ref C_OutOfRow) = some false)
    (v_Nothing_Nothing : PySem.W.exmOne K (.ref C_Nothing) (.ref C_Nothing) = some true)
    (v_TooMany_OutOfRow : PySem.W.exmOne K (.ref C_TooMany) (.ref C_OutOfRow) = some false)
    (v_TooMany_Nothing : PySem.W.exmOne K (.ref C_TooMany) (.ref C_Nothing) = some false)
    (v_TooMany_TooMany : PySem.W.exmOne K (.ref C_TooMany) (.ref C_TooMany) = some true)
    (n_MOST_GIVEN : ∃ t, mg "MOST_GIVEN" = some (.int 1000 t))
    (n_MOST_PLACES : ∃ t, mg "MOST_PLACES" = some (.int 1000000000000 t))
    (n_MOST_LISTED : ∃ t, mg "MOST_LISTED" = some (.int 1000 t))
    (z_min : mg "min" = none)
    (z_len : mg "len" = none)
    (z_max : mg "max" = none)
    (z_int : mg "int" = none)
    (z_isinstance : mg "isinstance" = none)
    (z_bool : mg "bool" = none)
    (z_sum : mg "sum" = none)
    (z_str : mg "str" = none)
    (z_list : mg "list" = none)
    (z_range : mg "range" = none)
    (F : Fun K "law" "law" st_law_k14 fa fd) : FnOk P w K mg base (L2.CX P w) 53 fa fd ["_law_script"] (sp_lawT K T) := by
  have c_check_stretch : Cal P w K mg base 1 "check_stretch" ["book", "low", "high"] (sp_check_stretch C C_OutOfRow) := D_check_stretch.cal (k := 0) sc_check_stretch (fun vs H Q E h => by obtain ⟨_, _, _, _, rfl, _⟩ := h; rfl) (t_check_stretch K C_OutOfRow) (fun f cdv A outer s H E hr => d_check_stretch x_OutOfRow f cdv A outer s H E hr) (p_check_stretch X)
  have m_Tree : CalMk P w K mg base 1 "Tree" C ["self", "many", "total", "least", "more", "left", "right"] (sp_Tree C) := M_Tree.cal (n := 0) sc_Tree_init (fun vs H Q E h => by obtain ⟨_, _, _, _, _, _, _, _, rfl, _⟩ := h; rfl) (t_Tree_init K) (fun f cdv A outer s H E hr => d_Tree_init f cdv A outer s H E hr) (p_Tree_init X)
  have c_even_tree : Cal P w K mg base 3 "even_tree" ["many", "number"] (sp_even_tree C) := D_even_tree.cal (k := 2) sc_even_tree (fun vs H Q E h => by obtain ⟨_, _, rfl, _⟩ := h; rfl) (t_even_tree C (sp_Tree C)) (fun f cdv A outer s H E hr => d_even_tree m_Tree (by omega) f cdv A outer s H E hr) p_even_tree
  have c_joined : Cal P w K mg base 3 "joined" ["left", "right", "more"] (sp_joined C) := D_joined.cal (k := 2) sc_joined (fun vs H Q E h => by obtain ⟨_, _, _, _, _, rfl, _⟩ := h; rfl) (t_joined K C (sp_Tree C)) (fun f cdv A outer s H E hr => d_joined m_Tree (by omega) z_min f cdv A outer s H E hr) (p_joined X)
  have c_tree_of : ∀ n, Cal P w K mg base (n + 3) "tree_of" ["numbers"] (sp_tree_of K C n) := fun n => by
    induction n with
    | zero => exact D_tree_of.none no_tree_of
    | succ n ih => exact (D_tree_of.cal (k := n + 3) sc_tree_of (fun vs H Q E h => by obtain ⟨_, _, _, rfl, _⟩ := h; rfl) (t_tree_of K (sp_even_tree C) (sp_tree_of K C n) (sp_joined C)) (fun f cdv A outer s H E hr => d_tree_of c_even_tree (by omega) ih (Nat.le_refl _) c_joined (by omega) z_len f cdv A outer s H E hr) p_tree_of).mono (by omega)
  have c_raised : Cal P w K mg base 4 "raised" ["tree", "by"] (sp_raised C) := D_raised.cal (k := 3) sc_raised (fun vs H Q E h => by obtain ⟨_, _, _, rfl, _⟩ := h; rfl) (t_raised K (sp_even_tree C) (sp_joined C)) (fun f cdv A outer s H E hr => d_raised c_even_tree (by omega) c_joined (by omega) f cdv A outer s H E hr) (p_raised X)
  have c_halves : Cal P w K mg base 4 "halves" ["tree"] (sp_halves C) := D_halves.cal (k := 3) sc_halves (fun vs H Q E h => by obtain ⟨_, _, rfl, _⟩ := h; rfl) (t_halves K (sp_even_tree C)) (fun f cdv A outer s H E hr => d_halves c_even_tree (by omega) f cdv A outer s H E hr) (p_halves X)
  have l_added_in : ∀ (f : Addr) (F : LF) (ws : List (Option V)), F.Is q_added_in la_added_in → LOk P w K mg base 5 f F ["by"] ws (sp_ch C opAdd ws) := fun f F ws hF => by
    obtain ⟨q, l, cl, c⟩ := F
    obtain ⟨rfl, rfl⟩ := hF
    exact lok_of ns_lam_added_in (fun pm ctv us hl => match us, hl with | [_, _], _ => rfl) len_ch (t_lam_added_in (sp_raised C)) (fun A outer s H E hr => d_lam_added_in c_raised (by omega) f cl c A outer s H E hr) p_lam_added_in
  have i_added_in : ∀ (f : Addr) (F : LF) (ws : List (Option V)), F.Is q_added_in la_added_in → ∀ n, CalG P w K mg base (n + 5) "changed_in" ["tree", "low", "high", "above", "change"] (GL f F ["by"] ws) (sp_changed_in C opAdd f F ws n) := fun f F ws hF n => by
    induction n with
    | zero => exact D_changed_in.noneG no_changed_in
    | succ n ih => exact (D_changed_in.calG (k := n + 5) sc_changed_in len_changed_in (t_changed_in K (sp_halves C) (sp_joined C) (sp_changed_in C opAdd f F ws n) f F (sp_ch C opAdd ws)) (fun f' cdv A outer s H E hG hr => d_changed_in c_halves (by omega) c_joined (by omega) ih (Nat.le_refl _) (l_added_in f F ws hF) (by omega) z_max z_min f' cdv A outer s H E hG hr) (p_changed_in X op_add)).mono (by omega)
  have g_added_in : ∀ (f : Addr) (F : LF) (ws : List (Option V)), F.Is q_added_in la_added_in → CalG P w K mg base 47 "changed" ["tree", "low", "high", "change"] (GL f F ["by"] ws) (sp_changed C opAdd f F ws) := fun f F ws hF =>
    D_changed.calG (k := 46) sc_changed len_changed (t_changed (sp_raised C) (sp_changed_in C opAdd f F ws 41)) (fun f' cdv A outer s H E hG hr => d_changed c_raised (by omega) (i_added_in f F ws hF 41) (by omega) f' cdv A outer s H E hG hr) p_changed
  have c_added_in : Cal P w K mg base 48 "added_in" ["tree", "low", "high", "by"] (sp_deed_in C T opAdd) := D_added_in.cal (n := 47) sc_added_in (fun vs H Q E h => by obtain ⟨_, _, _, _, _, rfl, _⟩ := h; rfl) (t_added_in T q_added_in la_added_in (sp_changed C opAdd)) (fun f A outer s H E hr => d_added_in g_added_in (by omega) TB_added_in hm_added_in hu_added_in f A outer s H E hr) p_added_in
  have l_filled_in : ∀ (f : Addr) (F : LF) (ws : List (Option V)), F.Is q_filled_in la_filled_in → LOk P w K mg base 4 f F ["number"] ws (sp_ch C opFill ws) := fun f F ws hF => by
    obtain ⟨q, l, cl, c⟩ := F
    obtain ⟨rfl, rfl⟩ := hF
    exact lok_of ns_lam_filled_in (fun pm ctv us hl => match us, hl with | [_, _], _ => rfl) len_ch (t_lam_filled_in K (sp_even_tree C)) (fun A outer s H E hr => d_lam_filled_in c_even_tree (by omega) f cl c A outer s H E hr) (p_lam_filled_in X)
  have i_filled_in : ∀ (f : Addr) (F : LF) (ws : List (Option V)), F.Is q_filled_in la_filled_in → ∀ n, CalG P w K mg base (n + 4) "changed_in" ["tree", "low", "high", "above", "change"] (GL f F ["number"] ws) (sp_changed_in C opFill f F ws n) := fun f F ws hF n => by
    induction n with
    | zero => exact D_changed_in.noneG no_changed_in
    | succ n ih => exact (D_changed_in.calG (k := n + 4) sc_changed_in len_changed_in (t_changed_in K (sp_halves C) (sp_joined C) (sp_changed_in C opFill f F ws n) f F (sp_ch C opFill ws)) (fun f' cdv A outer s H E hG hr => d_changed_in c_halves (by omega) c_joined (by omega) ih (Nat.le_refl _) (l_filled_in f F ws hF) (by omega) z_max z_min f' cdv A outer s H E hG hr) (p_changed_in X op_fill)).mono (by omega)
  have g_filled_in : ∀ (f : Addr) (F : LF) (ws : List (Option V)), F.Is q_filled_in la_filled_in → CalG P w K mg base 46 "changed" ["tree", "low", "high", "change"] (GL f F ["number"] ws) (sp_changed C opFill f F ws) := fun f F ws hF =>
    D_changed.calG (k := 45) sc_changed len_changed (t_changed (sp_raised C) (sp_changed_in C opFill f F ws 41)) (fun f' cdv A outer s H E hG hr => d_changed c_raised (by omega) (i_filled_in f F ws hF 41) (by omega) f' cdv A outer s H E hG hr) p_changed
  have c_filled_in : Cal P w K mg base 47 "filled_in" ["tree", "low", "high", "number"] (sp_deed_in C T opFill) := D_filled_in.cal (n := 46) sc_filled_in (fun vs H Q E h => by obtain ⟨_, _, _, _, _, rfl, _⟩ := h; rfl) (t_filled_in T q_filled_in la_filled_in (sp_changed C opFill)) (fun f A outer s H E hr => d_filled_in g_filled_in (by omega) TB_filled_in hm_filled_in hu_filled_in f A outer s H E hr) p_filled_in
  have c_total_in : ∀ n, Cal P w K mg base (n + 0) "total_in" ["tree", "low", "high"] (sp_total_in C n) := fun n => by
    induction n with
    | zero => exact D_total_in.none no_total_in
    | succ n ih => exact (D_total_in.cal (k := n + 0) sc_total_in (fun vs H Q E h => by obtain ⟨_, _, _, _, rfl, _⟩ := h; rfl) (t_total_in K (sp_total_in C n)) (fun f cdv A outer s H E hr => d_total_in ih (Nat.le_refl _) z_max z_min f cdv A outer s H E hr) (p_total_in X)).mono (by omega)
  have c_least_in : ∀ n, Cal P w K mg base (n + 0) "least_in" ["tree", "low", "high"] (sp_least_in C n) := fun n => by
    induction n with
    | zero => exact D_least_in.none no_least_in
    | succ n ih => exact (D_least_in.cal (k := n + 0) sc_least_in (fun vs H Q E h => by obtain ⟨_, _, _, _, rfl, _⟩ := h; rfl) (t_least_in K (sp_least_in C n)) (fun f cdv A outer s H E hr => d_least_in ih (Nat.le_refl _) z_max z_min f cdv A outer s H E hr) (p_least_in X)).mono (by omega)
  have c_first_in : ∀ n, Cal P w K mg base (n + 0) "first_in" ["tree", "low", "bound"] (sp_first_in C n) := fun n => by
    induction n with
    | zero => exact D_first_in.none no_first_in
    | succ n ih => exact (D_first_in.cal (k := n + 0) sc_first_in (fun vs H Q E h => by obtain ⟨_, _, _, _, rfl, _⟩ := h; rfl) (t_first_in K (sp_first_in C n)) (fun f cdv A outer s H E hr => d_first_in ih (Nat.le_refl _) z_max f cdv A outer s H E hr) (p_first_in X)).mono (by omega)
  have c_numbers_in : ∀ n, CalD P w K mg base (n + 0) "numbers_in" ["tree", "low", "high", "above"] [.int 0] (sp_numbers_in C n) := fun n => by
    induction n with
    | zero => exact D_numbers_in.none no_numbers_in
    | succ n ih => exact (D_numbers_in.cal (k := n + 0) sc_numbers_in (fun vs H Q E h => by obtain ⟨_, _, _, _, _, rfl, _⟩ := h; rfl) (t_numbers_in K (sp_numbers_in C n)) (fun f cdv A outer s H E hr => d_numbers_in ih (Nat.le_refl _) z_max z_min f cdv A outer s H E hr) (p_numbers_in X)).mono (by omega)
  have c_total : Cal P w K mg base 42 "total" ["book", "low", "high"] (sp_total C C_OutOfRow 41) := D_total.cal (k := 41) sc_total (fun vs H Q E h => by obtain ⟨_, _, _, _, rfl, _⟩ := h; rfl) (t_total (sp_check_stretch C C_OutOfRow) (sp_total_in C 41)) (fun f cdv A outer s H E hr => d_total c_check_stretch (by omega) (c_total_in 41) (by omega) f cdv A outer s H E hr) p_total
  have c_least : Cal P w K mg base 42 "least" ["book", "low", "high"] (sp_least C C_OutOfRow C_Nothing 41) := D_least.cal (k := 41) sc_least (fun vs H Q E h => by obtain ⟨_, _, _, _, rfl, _⟩ := h; rfl) (t_least C_Nothing (sp_check_stretch C C_OutOfRow) (sp_least_in C 41)) (fun f cdv A outer s H E hr => d_least c_check_stretch (by omega) (c_least_in 41) (by omega) x_Nothing f cdv A outer s H E hr) p_least
  have c_place : Cal P w K mg base 43 "place" ["book", "low", "high"] (sp_place C C_OutOfRow C_Nothing 41) := D_place.cal (k := 42) sc_place (fun vs H Q E h => by obtain ⟨_, _, _, _, rfl, _⟩ := h; rfl) (t_place (sp_least C C_OutOfRow C_Nothing 41) (sp_first_in C 41)) (fun f cdv A outer s H E hr => d_place c_least (by omega) (c_first_in 41) (by omega) f cdv A outer s H E hr) p_place
  have c_first : Cal P w K mg base 42 "first" ["book", "low", "bound"] (sp_first C C_OutOfRow 41) := D_first.cal (k := 41) sc_first (fun vs H Q E h => by obtain ⟨_, _, _, _, rfl, _⟩ := h; rfl) (t_first K (sp_check_stretch C C_OutOfRow) (sp_first_in C 41)) (fun f cdv A outer s H E hr => d_first c_check_stretch (by omega) (c_first_in 41) (by omega) f cdv A outer s H E hr) (p_first X)
  have c_added : Cal P w K mg base 49 "added" ["book", "low", "high", "by"] (sp_deed C C_OutOfRow T opAdd) := D_added.cal (k := 48) sc_added (fun vs H Q E h => by obtain ⟨_, _, _, _, _, _, rfl, _⟩ := h; rfl) (t_added (sp_check_stretch C C_OutOfRow) (sp_deed_in C T opAdd)) (fun f cdv A outer s H E hr => d_added c_check_stretch (by omega) c_added_in (by omega) f cdv A outer s H E hr) p_added
  have c_filled : Cal P w K mg base 48 "filled" ["book", "low", "high", "number"] (sp_deed C C_OutOfRow T opFill) := D_filled.cal (k := 47) sc_filled (fun vs H Q E h => by obtain ⟨_, _, _, _, _, _, rfl, _⟩ := h; rfl) (t_filled (sp_check_stretch C C_OutOfRow) (sp_deed_in C T opFill)) (fun f cdv A outer s H E hr => d_filled c_check_stretch (by omega) c_filled_in (by omega) f cdv A outer s H E hr) p_filled
  have c_made : Cal P w K mg base 15 "made" ["numbers"] (sp_made K C C_NoRow) := D_made.cal (k := 14) sc_made (fun vs H Q E h => by obtain ⟨_, _, rfl, _⟩ := h; rfl) (t_made K C_NoRow (sp_tree_of K C 11)) (fun f cdv A outer s H E hr => d_made (c_tree_of 11) (by omega) x_NoRow n_MOST_GIVEN z_len f cdv A outer s H E hr) p_made
  have c_even : Cal P w K mg base 4 "even" ["many", "number"] (sp_even C C_NoRow) := D_even.cal (k := 3) sc_even (fun vs H Q E h => by obtain ⟨_, _, rfl, _⟩ := h; rfl) (t_even C_NoRow (sp_even_tree C)) (fun f cdv A outer s H E hr => d_even c_even_tree (by omega) x_NoRow n_MOST_PLACES f cdv A outer s H E hr) p_even
  have c_length : Cal P w K mg base 1 "length" ["book"] (sp_length C) := D_length.cal (k := 0) sc_length (fun vs H Q E h => by obtain ⟨_, _, rfl, _⟩ := h; rfl) (t_length K) (fun f cdv A outer s H E hr => d_length f cdv A outer s H E hr) (p_length X)
  have c_listed : Cal P w K mg base 42 "listed" ["book", "low", "high"] (sp_listed C C_OutOfRow C_TooMany 41) := D_listed.cal (k := 41) sc_listed (fun vs H Q E h => by obtain ⟨_, _, _, _, rfl, _⟩ := h; rfl) (t_listed C_TooMany (sp_check_stretch C C_OutOfRow) (sp_numbers_in C 41)) (fun f cdv A outer s H E hr => d_listed c_check_stretch (by omega) (c_numbers_in 41) (by omega) x_TooMany n_MOST_LISTED f cdv A outer s H E hr) p_listed
  have c_told : Cal P w K mg base 44 "told" ["book", "deed"] (sp_told C C_OutOfRow C_TooMany C_Nothing) := D_told.cal (k := 43) sc_told (fun vs H Q E h => by obtain ⟨_, _, _, _, _, _, rfl, _⟩ := h; rfl) (t_told K (sp_listed C C_OutOfRow C_TooMany 41) (sp_first C C_OutOfRow 41) (sp_place C C_OutOfRow C_Nothing 41) (sp_least C C_OutOfRow C_Nothing 41) (sp_total C C_OutOfRow 41)) (fun f cdv A outer s H E hr => d_told c_listed (by omega) c_first (by omega) c_place (by omega) c_least (by omega) c_total (by omega) f cdv A outer s H E hr) p_told
  have c_go_back : Cal P w K mg base 1 "go_back" ["books"] (sp_go_back C_Nothing) := D_go_back.cal (k := 0) sc_go_back (fun vs H Q E h => by obtain ⟨_, _, rfl, _⟩ := h; rfl) (t_go_back K C_Nothing) (fun f cdv A outer s H E hr => d_go_back x_Nothing z_len f cdv A outer s H E hr) p_go_back
  have c_done : Cal P w K mg base 50 "done" ["books", "deed"] (sp_done C C_OutOfRow C_TooMany C_Nothing T) := D_done.cal (k := 49) sc_done (fun vs H Q E h => by obtain ⟨_, _, _, _, _, rfl, _⟩ := h; rfl) (t_done K (sp_told C C_OutOfRow C_TooMany C_Nothing) (sp_go_back C_Nothing) (sp_deed C C_OutOfRow T opFill) (sp_deed C C_OutOfRow T opAdd)) (fun f cdv A outer s H E hr => d_done c_told (by omega) c_go_back (by omega) c_filled (by omega) c_added (by omega) f cdv A outer s H E hr) p_done
  have c_answer : Cal P w K mg base 51 "answer" ["books", "deed"] (sp_answer C T) := D_answer.cal (k := 50) sc_answer (fun vs H Q E h => by obtain ⟨_, _, _, _, _, rfl, _⟩ := h; rfl) (t_answer K C_OutOfRow C_Nothing C_TooMany (sp_done C C_OutOfRow C_TooMany C_Nothing T)) (fun f cdv A outer s H E hr => d_answer c_done (by omega) x_OutOfRow x_Nothing x_TooMany f cdv A outer s H E hr) (p_answer v_OutOfRow_OutOfRow v_Nothing_OutOfRow v_Nothing_Nothing v_TooMany_OutOfRow v_TooMany_Nothing v_TooMany_TooMany)
  have c_answers : Cal P w K mg base 52 "answers" ["book", "deeds"] (sp_answers C T) := D_answers.cal (k := 51) sc_answers (fun vs H Q E h => by obtain ⟨_, _, _, _, _, _, rfl, _⟩ := h; rfl) (t_answers K (sp_answer C T)) (fun f cdv A outer s H E hr => d_answers c_answer (by omega) f cdv A outer s H E hr) p_answers
  have c_l_whole : Cal P w K mg base 1 "_law_whole" ["_law_found"] sp_l_whole := D_l_whole.cal (k := 0) sc_l_whole (fun vs H Q E h => by obtain ⟨_, rfl, _⟩ := h; rfl) (t_l_whole K) (fun f cdv A outer s H E hr => d_l_whole z_int z_isinstance z_bool f cdv A outer s H E hr) p_l_whole
  have c_l_cell_at : Cal P w K mg base 1 "_law_cell_at" ["_law_script", "_law_k"] (sp_l_cell_at K) := D_l_cell_at.cal (k := 0) sc_l_cell_at (fun vs H Q E h => by obtain ⟨_, _, _, rfl, _⟩ := h; rfl) (t_l_cell_at K) (fun f cdv A outer s H E hr => d_l_cell_at z_len f cdv A outer s H E hr) p_l_cell_at
  have c_l_number_by : Cal P w K mg base 1 "_law_number_by" ["_law_cell"] sp_l_number_by := D_l_number_by.cal (k := 0) sc_l_number_by (fun vs H Q E h => by obtain ⟨_, rfl, _⟩ := h; rfl) (t_l_number_by ) (fun f cdv A outer s H E hr => d_l_number_by f cdv A outer s H E hr) p_l_number_by
  have c_l_cut : Cal P w K mg base 1 "_law_cut" ["_law_runs", "_law_at"] sp_l_cut := D_l_cut.cal (k := 0) sc_l_cut (fun vs H Q E h => by obtain ⟨_, _, _, rfl, _⟩ := h; rfl) (t_l_cut K) (fun f cdv A outer s H E hr => d_l_cut f cdv A outer s H E hr) p_l_cut
  have c_l_changed11 : Cal P w K mg base 2 "_law_changed" ["_law_runs", "_law_word", "_law_low", "_law_high", "_law_number"] sp_l_changed11 := D_l_changed11.cal (k := 1) sc_l_changed11 (fun vs H Q E h => by obtain ⟨_, _, _, _, _, _, rfl, _⟩ := h; rfl) (t_l_changed11 K sp_l_cut) (fun f cdv A outer s H E hr => d_l_changed11 c_l_cut (by omega) f cdv A outer s H E hr) p_l_changed11
  have c_l_within : Cal P w K mg base 1 "_law_within" ["_law_runs", "_law_low", "_law_high"] sp_l_within := D_l_within.cal (k := 0) sc_l_within (fun vs H Q E h => by obtain ⟨_, _, _, _, rfl, _⟩ := h; rfl) (t_l_within K) (fun f cdv A outer s H E hr => d_l_within z_max z_min f cdv A outer s H E hr) p_l_within
  have c_l_due11 : Cal P w K mg base 2 "_law_due" ["_law_runs", "_law_word", "_law_low", "_law_high"] sp_l_due14 := D_l_due11.cal (k := 1) sc_l_due11 (fun vs H Q E h => by obtain ⟨_, _, _, _, _, _, _, rfl, _⟩ := h; rfl) (t_l_due11 K sp_l_within) (fun f cdv A outer s H E hr => d_l_due11 c_l_within (by omega) z_sum f cdv A outer s H E hr) p_l_due14
  have c_l_first11 : Cal P w K mg base 1 "_law_first" ["_law_runs", "_law_low", "_law_bound"] sp_l_first11 := D_l_first11.cal (k := 0) sc_l_first11 (fun vs H Q E h => by obtain ⟨_, _, _, _, _, _, rfl, _⟩ := h; rfl) (t_l_first11 K) (fun f cdv A outer s H E hr => d_l_first11 z_max f cdv A outer s H E hr) p_l_first11
  have c_l_alike10 : Cal P w K mg base 2 "_law_alike" ["_law_found", "_law_due_here"] sp_l_alike10 := D_l_alike10.cal (k := 1) sc_l_alike10 (fun vs H Q E h => by obtain ⟨_, _, rfl, _⟩ := h; rfl) (t_l_alike10 K sp_l_whole) (fun f cdv A outer s H E hr => d_l_alike10 c_l_whole (by omega) z_str z_isinstance z_list z_len z_range f cdv A outer s H E hr) p_l_alike10
  have c_l_end_by14 : Cal P w K mg base 1 "_law_end_by" ["_law_cell", "_law_runs", "_law_many"] sp_l_end_by14 := D_l_end_by14.cal (k := 0) sc_l_end_by14 (fun vs H Q E h => by obtain ⟨_, _, _, _, rfl, _⟩ := h; rfl) (t_l_end_by14 K) (fun f cdv A outer s H E hr => d_l_end_by14 z_len f cdv A outer s H E hr) p_l_end_by14
  have c_l_answer : Cal P w K mg base 3 "_law_answer" ["_law_runs", "_law_many", "_law_deed"] sp_l_answer := D_l_answer.cal (k := 2) sc_l_answer (fun vs H Q E h => by obtain ⟨_, _, _, _, _, _, _, rfl, _⟩ := h; rfl) (t_l_answer K sp_l_first11 sp_l_due14) (fun f cdv A outer s H E hr => d_l_answer c_l_first11 (by omega) c_l_due11 (by omega) f cdv A outer s H E hr) p_l_answer
  have c_l_made : Cal P w K mg base 1 "_law_made" ["_law_word", "_law_low", "_law_high", "_law_number"] sp_l_made := D_l_made.cal (k := 0) sc_l_made (fun vs H Q E h => by obtain ⟨_, _, _, _, rfl, _⟩ := h; rfl) (t_l_made ) (fun f cdv A outer s H E hr => d_l_made f cdv A outer s H E hr) p_l_made
  have c_l_deed_by : Cal P w K mg base 2 "_law_deed_by" ["_law_one", "_law_two", "_law_runs", "_law_many"] sp_l_deed_by := D_l_deed_by.cal (k := 1) sc_l_deed_by (fun vs H Q E h => by obtain ⟨_, _, _, _, _, rfl, _⟩ := h; rfl) (t_l_deed_by K sp_l_end_by14 sp_l_number_by sp_l_made) (fun f cdv A outer s H E hr => d_l_deed_by c_l_end_by14 (by omega) c_l_number_by (by omega) c_l_made (by omega) z_len f cdv A outer s H E hr) p_l_deed_by
  have c_l_run : Cal P w K mg base 2 "_law_run" ["_law_script", "_law_k"] (sp_l_run K) := D_l_run.cal (k := 1) sc_l_run (fun vs H Q E h => by obtain ⟨_, _, _, rfl, _⟩ := h; rfl) (t_l_run (sp_l_cell_at K)) (fun f cdv A outer s H E hr => d_l_run c_l_cell_at (by omega) f cdv A outer s H E hr) p_l_run
  have c_l_noted : Cal P w K mg base 4 "_law_noted" ["_law_deed", "_law_deeds", "_law_due_here", "_law_ahead", "_law_many"] sp_l_noted := D_l_noted.cal (k := 3) sc_l_noted (fun vs H Q E h => by obtain ⟨_, _, _, _, _, _, _, _, _, _, _, rfl, _⟩ := h; rfl) (t_l_noted K sp_l_answer sp_l_changed11) (fun f cdv A outer s H E hr => d_l_noted c_l_answer (by omega) c_l_changed11 (by omega) z_len z_int f cdv A outer s H E hr) p_l_noted
  have c_l_start : Cal P w K mg base 50 "_law_start" ["_law_script"] (sp_l_start K C T) := D_l_start.cal (k := 49) sc_l_start (fun vs H Q E h => by obtain ⟨_, _, rfl, _⟩ := h; rfl) (t_l_start K (sp_l_cell_at K) sp_l_number_by (sp_made K C C_NoRow) (sp_even C C_NoRow) (sp_deed C C_OutOfRow T opAdd) sp_l_changed11) (fun f cdv A outer s H E hr => d_l_start c_l_cell_at (by omega) c_l_number_by (by omega) c_made (by omega) c_even (by omega) c_added (by omega) c_l_changed11 (by omega) z_range f cdv A outer s H E hr) p_l_start
  exact RB.Fun.fn F (n := 52) sc_law_k14 (fun vs H Q E h => by obtain ⟨_, _, rfl, _⟩ := h; rfl) (t_law_k14 K (sp_l_start K C T) (sp_l_run K) sp_l_noted sp_l_deed_by (sp_answers C T) sp_l_alike10 (sp_length C) sp_l_due14 (sp_total C C_OutOfRow 41)) (fun f cdv A outer s H E hr => d_law_k14 c_l_start (by omega) c_l_run (by omega) c_l_noted (by omega) c_l_deed_by (by omega) c_answers (by omega) c_l_alike10 (by omega) c_length (by omega) c_l_due11 (by omega) c_total (by omega) z_range z_len z_min z_list z_isinstance f cdv A outer s H E hr) p_law_k14
end RB
open PySem PySem.W PyProof.Rows
set_option maxRecDepth 100000 in
set_option maxHeartbeats 0 in
theorem PySem.Challenge.cw_rangebook_k14_whole_deeds_answered_holds : PySem.Challenge.rw_rangebook_k14_whole_deeds_answered.Holds := by
  w_on; o_law; k_head; (case hw => w_witness2)
  k_fill
  refine RB.walkT (l := PySem.Challenge.rw_rangebook_k14_whole_deeds_answered) (k := 53) rfl rfl ⟨rfl, by decide, by decide⟩ (fun w h Y => PySem.W.km_in_of Y) ?F
  case F =>
    intro w mg mb fa h mean KX G hmg GX TT
    refine' RB.law_mkT2 (st := RB.st_law_k14) (q1 := RB.q_added_in) (q2 := RB.q_filled_in) KX G hmg ?w1 ?w2 ?hla ?hll ?hlc ?hlk ?hlb ?hrun
    (case w1 => (refine' RB.TabW.mk' (x := "added_in") TT KX ?w1r ?w1a ?w1l ?w1c ?w1m ?w1v ?w1n; (case w1r => rfl); (case w1a => k_is); (case w1l => k_is); (case w1c => rfl); (case w1m => k_is); (case w1v => rfl); (case w1n => first | rfl | kernel_rfl)))
    (case w2 => (refine' RB.TabW.mk' (x := "filled_in") TT KX ?w2r ?w2a ?w2l ?w2c ?w2m ?w2v ?w2n; (case w2r => rfl); (case w2a => k_is); (case w2l => k_is); (case w2c => rfl); (case w2m => k_is); (case w2v => rfl); (case w2n => first | rfl | kernel_rfl)))
    (case hla => k_is); (case hll => k_is); (case hlc => k_is); (case hlk => k_is); (case hlb => exact fun s v => .of_eq rfl)
    case hrun =>
      intro base fd B1 B2 F
      refine' RB.run_k14 ?h_M_Tree ?h_X ?h_D_check_stretch ?h_D_even_tree ?h_D_joined ?h_D_tree_of ?h_D_raised ?h_D_halves ?h_D_added_in ?h_TB_added_in ?h_hm_added_in ?h_hu_added_in ?h_D_filled_in ?h_TB_filled_in ?h_hm_filled_in ?h_hu_filled_in ?h_D_changed ?h_D_total_in ?h_D_least_in ?h_D_first_in ?h_D_numbers_in ?h_D_changed_in ?h_D_total ?h_D_least ?h_D_place ?h_D_first ?h_D_added ?h_D_filled ?h_D_made ?h_D_even ?h_D_length ?h_D_listed ?h_D_answers ?h_D_answer ?h_D_done ?h_D_go_back ?h_D_told ?h_D_l_whole ?h_D_l_cell_at ?h_D_l_number_by ?h_D_l_cut ?h_D_l_changed11 ?h_D_l_within ?h_D_l_due11 ?h_D_l_first11 ?h_D_l_alike10 ?h_D_l_end_by14 ?h_D_l_answer ?h_D_l_deed_by ?h_D_l_made ?h_D_l_run ?h_D_l_noted ?h_D_l_start ?h_x_OutOfRow ?h_x_Nothing ?h_x_NoRow ?h_x_TooMany ?h_v_OutOfRow_OutOfRow ?h_v_Nothing_OutOfRow ?h_v_Nothing_Nothing ?h_v_TooMany_OutOfRow ?h_v_TooMany_Nothing ?h_v_TooMany_TooMany ?h_n_MOST_GIVEN ?h_n_MOST_PLACES ?h_n_MOST_LISTED ?h_z_min ?h_z_len ?h_z_max ?h_z_int ?h_z_isinstance ?h_z_bool ?h_z_sum ?h_z_str ?h_z_list ?h_z_range F
      (case h_M_Tree => (refine' RB.MkAt.mk' KX G ?h0aC ?h0a ?h0i ?h0l ?h0c ?h0k ?h0mk ?h0kc (fun _ _ _ _ _ _ us hl => match us, hl with | [_, _, _, _, _, _, _], _ => rfl); (case h0aC => k_is); (case h0a => k_is); (case h0i => k_is); (case h0l => k_is); (case h0c => k_is); (case h0k => k_is); (case h0mk => k_is); (case h0kc => k_is)))
      (case h_X => (refine' RB.Tx.mk' ?h1a1 ?h1a2 ?h1a3 ?h1a4 ?h1b1 ?h1b2 ?h1b3 ?h1b4 ?h1b5 ?h1b6; (case h1a1 => k_is); (case h1a2 => k_is); (case h1a3 => k_is); (case h1a4 => k_is); (case h1b1 => k_is); (case h1b2 => k_is); (case h1b3 => k_is); (case h1b4 => k_is); (case h1b5 => k_is); (case h1b6 => k_is)))
      (case h_D_check_stretch => (refine' RB.DefAt.mk' KX G ?h2a ?h2l ?h2c ?h2k (fun _ _ _ _ _ _ us hl => match us, hl with | [_, _, _], _ => rfl); (case h2a => k_is); (case h2l => k_is); (case h2c => k_is); (case h2k => k_is)))
      (case h_D_even_tree => (refine' RB.DefAt.mk' KX G ?h3a ?h3l ?h3c ?h3k (fun _ _ _ _ _ _ us hl => match us, hl with | [_, _], _ => rfl); (case h3a => k_is); (case h3l => k_is); (case h3c => k_is); (case h3k => k_is)))
      (case h_D_joined => (refine' RB.DefAt.mk' KX G ?h4a ?h4l ?h4c ?h4k (fun _ _ _ _ _ _ us hl => match us, hl with | [_, _, _], _ => rfl); (case h4a => k_is); (case h4l => k_is); (case h4c => k_is); (case h4k => k_is)))
      (case h_D_tree_of => (refine' RB.DefAt.mk' KX G ?h5a ?h5l ?h5c ?h5k (fun _ _ _ _ _ _ us hl => match us, hl with | [_], _ => rfl); (case h5a => k_is); (case h5l => k_is); (case h5c => k_is); (case h5k => k_is)))
      (case h_D_raised => (refine' RB.DefAt.mk' KX G ?h6a ?h6l ?h6c ?h6k (fun _ _ _ _ _ _ us hl => match us, hl with | [_, _], _ => rfl); (case h6a => k_is); (case h6l => k_is); (case h6c => k_is); (case h6k => k_is)))
      (case h_D_halves => (refine' RB.DefAt.mk' KX G ?h7a ?h7l ?h7c ?h7k (fun _ _ _ _ _ _ us hl => match us, hl with | [_], _ => rfl); (case h7a => k_is); (case h7l => k_is); (case h7c => k_is); (case h7k => k_is)))
      (case h_D_added_in => (refine' RB.DefAtL.mk' KX G ?h8a ?h8l ?h8c ?h8k (fun _ _ _ _ _ _ us hl => match us, hl with | [_, _, _, _], _ => rfl); (case h8a => k_is); (case h8l => k_is); (case h8c => k_is); (case h8k => k_is)))
      (case h_TB_added_in => (exact B1))
      (case h_hm_added_in => (simp))
      (case h_hu_added_in => (decide +kernel))
      (case h_D_filled_in => (refine' RB.DefAtL.mk' KX G ?h12a ?h12l ?h12c ?h12k (fun _ _ _ _ _ _ us hl => match us, hl with | [_, _, _, _], _ => rfl); (case h12a => k_is); (case h12l => k_is); (case h12c => k_is); (case h12k => k_is)))
      (case h_TB_filled_in => (exact B2))
      (case h_hm_filled_in => (simp))
      (case h_hu_filled_in => (decide +kernel))
      (case h_D_changed => (refine' RB.DefAt.mk' KX G ?h16a ?h16l ?h16c ?h16k (fun _ _ _ _ _ _ us hl => match us, hl with | [_, _, _, _], _ => rfl); (case h16a => k_is); (case h16l => k_is); (case h16c => k_is); (case h16k => k_is)))
      (case h_D_total_in => (refine' RB.DefAt.mk' KX G ?h17a ?h17l ?h17c ?h17k (fun _ _ _ _ _ _ us hl => match us, hl with | [_, _, _], _ => rfl); (case h17a => k_is); (case h17l => k_is); (case h17c => k_is); (case h17k => k_is)))
      (case h_D_least_in => (refine' RB.DefAt.mk' KX G ?h18a ?h18l ?h18c ?h18k (fun _ _ _ _ _ _ us hl => match us, hl with | [_, _, _], _ => rfl); (case h18a => k_is); (case h18l => k_is); (case h18c => k_is); (case h18k => k_is)))
      (case h_D_first_in => (refine' RB.DefAt.mk' KX G ?h19a ?h19l ?h19c ?h19k (fun _ _ _ _ _ _ us hl => match us, hl with | [_, _, _], _ => rfl); (case h19a => k_is); (case h19l => k_is); (case h19c => k_is); (case h19k => k_is)))
      (case h_D_numbers_in => (refine' RB.DefAtD.mk0 KX G ?h20a ?h20l ?h20lT ?h20dT ?h20c ?h20k 3 rfl (fun _ _ _ _ _ _ _ us its hl hi => match us, its, hl, hi with | [_, _, _, _], [_], _, _ => ⟨_, rfl, rfl⟩) (fun _ _ _ _ _ _ _ us its hl hi => match us, its, hl, hi with | [_, _, _], [_], _, _ => ⟨_, rfl, rfl⟩); (case h20a => k_is); (case h20l => k_is); (case h20lT => k_is); (case h20dT => rfl); (case h20c => k_is); (case h20k => k_is)))
      (case h_D_changed_in => (refine' RB.DefAt.mk' KX G ?h21a ?h21l ?h21c ?h21k (fun _ _ _ _ _ _ us hl => match us, hl with | [_, _, _, _, _], _ => rfl); (case h21a => k_is); (case h21l => k_is); (case h21c => k_is); (case h21k => k_is)))
      (case h_D_total => (refine' RB.DefAt.mk' KX G ?h22a ?h22l ?h22c ?h22k (fun _ _ _ _ _ _ us hl => match us, hl with | [_, _, _], _ => rfl); (case h22a => k_is); (case h22l => k_is); (case h22c => k_is); (case h22k => k_is)))
      (case h_D_least => (refine' RB.DefAt.mk' KX G ?h23a ?h23l ?h23c ?h23k (fun _ _ _ _ _ _ us hl => match us, hl with | [_, _, _], _ => rfl); (case h23a => k_is); (case h23l => k_is); (case h23c => k_is); (case h23k => k_is)))
      (case h_D_place => (refine' RB.DefAt.mk' KX G ?h24a ?h24l ?h24c ?h24k (fun _ _ _ _ _ _ us hl => match us, hl with | [_, _, _], _ => rfl); (case h24a => k_is); (case h24l => k_is); (case h24c => k_is); (case h24k => k_is)))
      (case h_D_first => (refine' RB.DefAt.mk' KX G ?h25a ?h25l ?h25c ?h25k (fun _ _ _ _ _ _ us hl => match us, hl with | [_, _, _], _ => rfl); (case h25a => k_is); (case h25l => k_is); (case h25c => k_is); (case h25k => k_is)))
      (case h_D_added => (refine' RB.DefAt.mk' KX G ?h26a ?h26l ?h26c ?h26k (fun _ _ _ _ _ _ us hl => match us, hl with | [_, _, _, _], _ => rfl); (case h26a => k_is); (case h26l => k_is); (case h26c => k_is); (case h26k => k_is)))
      (case h_D_filled => (refine' RB.DefAt.mk' KX G ?h27a ?h27l ?h27c ?h27k (fun _ _ _ _ _ _ us hl => match us, hl with | [_, _, _, _], _ => rfl); (case h27a => k_is); (case h27l => k_is); (case h27c => k_is); (case h27k => k_is)))
      (case h_D_made => (refine' RB.DefAt.mk' KX G ?h28a ?h28l ?h28c ?h28k (fun _ _ _ _ _ _ us hl => match us, hl with | [_], _ => rfl); (case h28a => k_is); (case h28l => k_is); (case h28c => k_is); (case h28k => k_is)))
      (case h_D_even => (refine' RB.DefAt.mk' KX G ?h29a ?h29l ?h29c ?h29k (fun _ _ _ _ _ _ us hl => match us, hl with | [_, _], _ => rfl); (case h29a => k_is); (case h29l => k_is); (case h29c => k_is); (case h29k => k_is)))
      (case h_D_length => (refine' RB.DefAt.mk' KX G ?h30a ?h30l ?h30c ?h30k (fun _ _ _ _ _ _ us hl => match us, hl with | [_], _ => rfl); (case h30a => k_is); (case h30l => k_is); (case h30c => k_is); (case h30k => k_is)))
      (case h_D_listed => (refine' RB.DefAt.mk' KX G ?h31a ?h31l ?h31c ?h31k (fun _ _ _ _ _ _ us hl => match us, hl with | [_, _, _], _ => rfl); (case h31a => k_is); (case h31l => k_is); (case h31c => k_is); (case h31k => k_is)))
      (case h_D_answers => (refine' RB.DefAt.mk' KX G ?h32a ?h32l ?h32c ?h32k (fun _ _ _ _ _ _ us hl => match us, hl with | [_, _], _ => rfl); (case h32a => k_is); (case h32l => k_is); (case h32c => k_is); (case h32k => k_is)))
      (case h_D_answer => (refine' RB.DefAt.mk' KX G ?h33a ?h33l ?h33c ?h33k (fun _ _ _ _ _ _ us hl => match us, hl with | [_, _], _ => rfl); (case h33a => k_is); (case h33l => k_is); (case h33c => k_is); (case h33k => k_is)))
      (case h_D_done => (refine' RB.DefAt.mk' KX G ?h34a ?h34l ?h34c ?h34k (fun _ _ _ _ _ _ us hl => match us, hl with | [_, _], _ => rfl); (case h34a => k_is); (case h34l => k_is); (case h34c => k_is); (case h34k => k_is)))
      (case h_D_go_back => (refine' RB.DefAt.mk' KX G ?h35a ?h35l ?h35c ?h35k (fun _ _ _ _ _ _ us hl => match us, hl with | [_], _ => rfl); (case h35a => k_is); (case h35l => k_is); (case h35c => k_is); (case h35k => k_is)))
      (case h_D_told => (refine' RB.DefAt.mk' KX G ?h36a ?h36l ?h36c ?h36k (fun _ _ _ _ _ _ us hl => match us, hl with | [_, _], _ => rfl); (case h36a => k_is); (case h36l => k_is); (case h36c => k_is); (case h36k => k_is)))
      (case h_D_l_whole => (refine' RB.DefAt.mk' KX G ?h37a ?h37l ?h37c ?h37k (fun _ _ _ _ _ _ us hl => match us, hl with | [_], _ => rfl); (case h37a => k_is); (case h37l => k_is); (case h37c => k_is); (case h37k => k_is)))
      (case h_D_l_cell_at => (refine' RB.DefAt.mk' KX G ?h38a ?h38l ?h38c ?h38k (fun _ _ _ _ _ _ us hl => match us, hl with | [_, _], _ => rfl); (case h38a => k_is); (case h38l => k_is); (case h38c => k_is); (case h38k => k_is)))
      (case h_D_l_number_by => (refine' RB.DefAt.mk' KX G ?h39a ?h39l ?h39c ?h39k (fun _ _ _ _ _ _ us hl => match us, hl with | [_], _ => rfl); (case h39a => k_is); (case h39l => k_is); (case h39c => k_is); (case h39k => k_is)))
      (case h_D_l_cut => (refine' RB.DefAt.mk' KX G ?h40a ?h40l ?h40c ?h40k (fun _ _ _ _ _ _ us hl => match us, hl with | [_, _], _ => rfl); (case h40a => k_is); (case h40l => k_is); (case h40c => k_is); (case h40k => k_is)))
      (case h_D_l_changed11 => (refine' RB.DefAt.mk' KX G ?h41a ?h41l ?h41c ?h41k (fun _ _ _ _ _ _ us hl => match us, hl with | [_, _, _, _, _], _ => rfl); (case h41a => k_is); (case h41l => k_is); (case h41c => k_is); (case h41k => k_is)))
      (case h_D_l_within => (refine' RB.DefAt.mk' KX G ?h42a ?h42l ?h42c ?h42k (fun _ _ _ _ _ _ us hl => match us, hl with | [_, _, _], _ => rfl); (case h42a => k_is); (case h42l => k_is); (case h42c => k_is); (case h42k => k_is)))
      (case h_D_l_due11 => (refine' RB.DefAt.mk' KX G ?h43a ?h43l ?h43c ?h43k (fun _ _ _ _ _ _ us hl => match us, hl with | [_, _, _, _], _ => rfl); (case h43a => k_is); (case h43l => k_is); (case h43c => k_is); (case h43k => k_is)))
      (case h_D_l_first11 => (refine' RB.DefAt.mk' KX G ?h44a ?h44l ?h44c ?h44k (fun _ _ _ _ _ _ us hl => match us, hl with | [_, _, _], _ => rfl); (case h44a => k_is); (case h44l => k_is); (case h44c => k_is); (case h44k => k_is)))
      (case h_D_l_alike10 => (refine' RB.DefAt.mk' KX G ?h45a ?h45l ?h45c ?h45k (fun _ _ _ _ _ _ us hl => match us, hl with | [_, _], _ => rfl); (case h45a => k_is); (case h45l => k_is); (case h45c => k_is); (case h45k => k_is)))
      (case h_D_l_end_by14 => (refine' RB.DefAt.mk' KX G ?h46a ?h46l ?h46c ?h46k (fun _ _ _ _ _ _ us hl => match us, hl with | [_, _, _], _ => rfl); (case h46a => k_is); (case h46l => k_is); (case h46c => k_is); (case h46k => k_is)))
      (case h_D_l_answer => (refine' RB.DefAt.mk' KX G ?h47a ?h47l ?h47c ?h47k (fun _ _ _ _ _ _ us hl => match us, hl with | [_, _, _], _ => rfl); (case h47a => k_is); (case h47l => k_is); (case h47c => k_is); (case h47k => k_is)))
      (case h_D_l_deed_by => (refine' RB.DefAt.mk' KX G ?h48a ?h48l ?h48c ?h48k (fun _ _ _ _ _ _ us hl => match us, hl with | [_, _, _, _], _ => rfl); (case h48a => k_is); (case h48l => k_is); (case h48c => k_is); (case h48k => k_is)))
      (case h_D_l_made => (refine' RB.DefAt.mk' KX G ?h49a ?h49l ?h49c ?h49k (fun _ _ _ _ _ _ us hl => match us, hl with | [_, _, _, _], _ => rfl); (case h49a => k_is); (case h49l => k_is); (case h49c => k_is); (case h49k => k_is)))
      (case h_D_l_run => (refine' RB.DefAt.mk' KX G ?h50a ?h50l ?h50c ?h50k (fun _ _ _ _ _ _ us hl => match us, hl with | [_, _], _ => rfl); (case h50a => k_is); (case h50l => k_is); (case h50c => k_is); (case h50k => k_is)))
      (case h_D_l_noted => (refine' RB.DefAt.mk' KX G ?h51a ?h51l ?h51c ?h51k (fun _ _ _ _ _ _ us hl => match us, hl with | [_, _, _, _, _], _ => rfl); (case h51a => k_is); (case h51l => k_is); (case h51c => k_is); (case h51k => k_is)))
      (case h_D_l_start => (refine' RB.DefAt.mk' KX G ?h52a ?h52l ?h52c ?h52k (fun _ _ _ _ _ _ us hl => match us, hl with | [_], _ => rfl); (case h52a => k_is); (case h52l => k_is); (case h52c => k_is); (case h52k => k_is)))
      (case h_x_OutOfRow => (refine' RB.ExcAt.mk' KX G ?h53a ?h53q ?h53k ?h53b ?h53t; (case h53a => k_is); (case h53q => k_exc); (case h53k => k_is); (case h53b => k_is); (case h53t => k_is)))
      (case h_x_Nothing => (refine' RB.ExcAt.mk' KX G ?h54a ?h54q ?h54k ?h54b ?h54t; (case h54a => k_is); (case h54q => k_exc); (case h54k => k_is); (case h54b => k_is); (case h54t => k_is)))
      (case h_x_NoRow => (refine' RB.ExcAt.mk' KX G ?h55a ?h55q ?h55k ?h55b ?h55t; (case h55a => k_is); (case h55q => k_exc); (case h55k => k_is); (case h55b => k_is); (case h55t => k_is)))
      (case h_x_TooMany => (refine' RB.ExcAt.mk' KX G ?h56a ?h56q ?h56k ?h56b ?h56t; (case h56a => k_is); (case h56q => k_exc); (case h56k => k_is); (case h56b => k_is); (case h56t => k_is)))
      (case h_v_OutOfRow_OutOfRow => (refine' PySem.W.exm_ref ?h57a ?h57b ?h57c ?h57d; (case h57a => k_is); (case h57b => k_is); (case h57c => k_is); (case h57d => first | rfl | k_is)))
      (case h_v_Nothing_OutOfRow => (refine' PySem.W.exm_ref ?h58a ?h58b ?h58c ?h58d; (case h58a => k_is); (case h58b => k_is); (case h58c => k_is); (case h58d => first | rfl | k_is)))
      (case h_v_Nothing_Nothing => (refine' PySem.W.exm_ref ?h59a ?h59b ?h59c ?h59d; (case h59a => k_is); (case h59b => k_is); (case h59c => k_is); (case h59d => first | rfl | k_is)))
      (case h_v_TooMany_OutOfRow => (refine' PySem.W.exm_ref ?h60a ?h60b ?h60c ?h60d; (case h60a => k_is); (case h60b => k_is); (case h60c => k_is); (case h60d => first | rfl | k_is)))
      (case h_v_TooMany_Nothing => (refine' PySem.W.exm_ref ?h61a ?h61b ?h61c ?h61d; (case h61a => k_is); (case h61b => k_is); (case h61c => k_is); (case h61d => first | rfl | k_is)))
      (case h_v_TooMany_TooMany => (refine' PySem.W.exm_ref ?h62a ?h62b ?h62c ?h62d; (case h62a => k_is); (case h62b => k_is); (case h62c => k_is); (case h62d => first | rfl | k_is)))
      (case h_n_MOST_GIVEN => (refine' ⟨_, (PySem.W.mg_of KX G ?h63a).trans ?h63b⟩; (case h63a => k_is); (case h63b => rfl)))
      (case h_n_MOST_PLACES => (exact RB.num_of GX (by first | exact .head _ | exact .tail _ (.head _) | exact .tail _ (.tail _ (.head _)))))
      (case h_n_MOST_LISTED => (refine' ⟨_, (PySem.W.mg_of KX G ?h65a).trans ?h65b⟩; (case h65a => k_is); (case h65b => rfl)))
      (case h_z_min => (refine' PySem.W.mg_none_of KX G ?h66a; (case h66a => k_is)))
      (case h_z_len => (refine' PySem.W.mg_none_of KX G ?h67a; (case h67a => k_is)))
      (case h_z_max => (refine' PySem.W.mg_none_of KX G ?h68a; (case h68a => k_is)))
      (case h_z_int => (refine' PySem.W.mg_none_of KX G ?h69a; (case h69a => k_is)))
      (case h_z_isinstance => (refine' PySem.W.mg_none_of KX G ?h70a; (case h70a => k_is)))
      (case h_z_bool => (refine' PySem.W.mg_none_of KX G ?h71a; (case h71a => k_is)))
      (case h_z_sum => (refine' PySem.W.mg_none_of KX G ?h72a; (case h72a => k_is)))
      (case h_z_str => (refine' PySem.W.mg_none_of KX G ?h73a; (case h73a => k_is)))
      (case h_z_list => (refine' PySem.W.mg_none_of KX G ?h74a; (case h74a => k_is)))
      (case h_z_range => (refine' PySem.W.mg_none_of KX G ?h75a; (case h75a => k_is)))
