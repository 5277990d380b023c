import PyProof.Rows.All
import Wide.All
import OpenK.AllK
import Wide.FinOn
import HandS.ForMost
import HandS.ForExc
import HandS.Wide
import HandS.IsInst
import HandS.ExcIs
import KE.KEqSeq
import KE.KEqDeep
import HandS.Lambda
import HandS.Nested
import HandS.Defaults
import HandS.EndTab
import HandS.Iter
import PySem.Challenge.RW_rangebook_k13_whole_answers_meet
set_option Elab.async false
set_option linter.all false
set_option maxRecDepth 100000
set_option maxHeartbeats 4000000
namespace RB
open PySem PySem.Spec PyProof.Rows L2
def nAdd : R2 := rI0 fun i j => .int (i + j)
def nSub : R2 := rI0 fun i j => .int (i - j)
def nMul : R2 := rI CMul fun i j => .int (i * j)
def nMulW : R2 := rI CMulW fun i j => .int (i * j)
def nDiv : R2 := rI CDiv fun i j => .int (i / j)
def nMod : R2 := rI (fun _ j => 0 < j) fun i j => .int (i % j)
def nPow : R2 := rI CPow fun i j => .int (i ^ j.toNat)
def nLt : R2 := rI0 fun i j => .bl (decide (i < j))
def nLe : R2 := rI0 fun i j => .bl (decide (i ≤ j))
def nGt : R2 := rI0 fun i j => .bl (decide (j < i))
def nGe : R2 := rI0 fun i j => .bl (decide (j ≤ i))
def nIs : R2 := fun x y H Q => y = .non ∧ Q (.bl (decide (x = .non))) H
def nIsNot : R2 := fun x y H Q => y = .non ∧ Q (.bl (!decide (x = .non))) H
def nNeg : V → Hp → VK → Prop := rU fun i => .int (-i)
def nMax : List V → Hp → VK → Prop := fun xs H Q => ∃ i j, xs = [.int i, .int j] ∧ Q (.int (if j > i then j else i)) H
def nMin : List V → Hp → VK → Prop := fun xs H Q => ∃ i j, xs = [.int i, .int j] ∧ Q (.int (if j < i then j else i)) H
def nLen (K : PySem.W.Frag) : List V → Hp → VK → Prop := fun xs H Q => ∃ p ys, xs = [.ref p] ∧ (SqL K H p ys ∨ SqT K H p ys) ∧ Q (.int ys.length) H
section
variable {X : Cx}
theorem oAdd : OpR X (binaryOp .Add) nAdd := op_add
theorem oSub : OpR X (binaryOp .Sub) nSub := op_sub
theorem oMul : OpR X (binaryOp .Mult) nMul := op_mul
theorem oMulW : OpR X (binaryOp .Mult) nMulW := op_mulW
theorem oDiv : OpR X (binaryOp .FloorDiv) nDiv := op_fdiv
theorem oMod : OpR X (binaryOp .Mod) nMod := op_mod
theorem oPow : OpR X (binaryOp .Pow) nPow := op_pow
theorem oLt : OpR X (compareOp .Lt) nLt := op_lt
theorem oLe : OpR X (compareOp .LtE) nLe := op_le
theorem oGt : OpR X (compareOp .Gt) nGt := op_gt
theorem oGe : OpR X (compareOp .GtE) nGe := op_ge
theorem oIs : OpR X (compareOp .Is) nIs := op_isN
theorem oIsNot : OpR X (compareOp .IsNot) nIsNot := op_notN
theorem cMax (hc : X.calm = true) : CallR X (.builtin "max") nMax := call_max2 hc
theorem cMin (hc : X.calm = true) : CallR X (.builtin "min") nMin := call_min2 hc
theorem cLen : CallR X (.builtin "len") (nLen X.K) := call_len_seq
theorem pe_num {x : Str} {pos : Pos} {n : Int} (hg : Gl X x) (h : ∃ t, X.mg x = some (.int n t)) (hd : (x == ("__debug__" : Str)) = false := by decide) : PE X (.Name x pos) (tC (.int n)) := by
  obtain ⟨t, h⟩ := h
  exact pe_glob hg h ⟨t, rfl⟩ hd
end
structure DefAt (K : PySem.W.Frag) (mg : Str → Option Value) (x : Str) (st : Stmt) (ps : List Str) : Prop where
  ex : ∃ f fd, Fun K x x st f fd ∧ mg x = some (.ref f) ∧ Binds K fd ps []
structure Cal (P : Program) (w : World) (K : PySem.W.Frag) (mg : Str → Option Value) (base : Heap) (k : Nat) (x : Str) (ps : List Str) (sp : Sp) : Prop where
  ex : ∃ f fd, FnOk P w K mg base (L2.CX P w) k f fd ps sp ∧ mg x = some (.ref f) ∧ PySem.W.keepIn K (.ref f) = true ∧ Binds K fd ps []
section
variable {P : Program} {w : World} {K : PySem.W.Frag} {mg : Str → Option Value} {base : Heap} {x : Str} {st : Stmt} {ps N : List Str} {sp : Sp} {k : Nat}
theorem DefAt.cal (D : DefAt K mg x st ps) (S : FnScope N ps (defScope st)) (len : ∀ vs H Q E, sp vs H Q E → vs.length = ps.length) (t : XK → TS)
    (der : ∀ (f : Addr) (cdv : Value) (A : Around) (outer : List Env) (s : Shared) (H : Hp) (E : XK), Room k (A.deeper (envOfC x (defScope st) s.heap.objs.size f cdv)) → PSs (cxOf (L2.CX P w) P w K mg base N x (defScope st) f cdv A outer s H E) (defBody st) (t E))
    (pure : ∀ vs H Q E, sp vs H Q E → t E { nx := fun _ H' => Q .non H', rt := Q } (start N vs) H) : Cal P w K mg base (k + 1) x ps sp := by
  obtain ⟨f, fd, F, hm, hb⟩ := D.ex
  exact ⟨f, fd, F.okX S len fun cdv A outer s H vs Q E hr h => ⟨t E, der f cdv A outer s H E hr, pure vs H Q E h⟩, hm, F.kp, hb⟩
theorem Cal.mono {j : Nat} (C : Cal P w K mg base j x ps sp) (h : j ≤ k) : Cal P w K mg base k x ps sp := by
  obtain ⟨f, fd, F, hm, hk, hb⟩ := C.ex
  exact ⟨f, fd, F.mono h, hm, hk, hb⟩
theorem DefAt.none (D : DefAt K mg x st ps) (no : ∀ vs H Q E, ¬ sp vs H Q E) : Cal P w K mg base k x ps sp := by
  obtain ⟨f, fd, F, hm, hb⟩ := D.ex
  exact ⟨f, fd, ⟨fun vs H Q E h => absurd h (no vs H Q E), fun A outer s H args us vs Q E _ _ _ _ h => absurd h (no vs H Q E)⟩, hm, F.kp, hb⟩
end
theorem pass_own {P : Program} {w : World} {K : PySem.W.Frag} {mg : Str → Option Value} {base : Heap} {N : List Str} {q : Str} {sc : Scope} {f : Addr} {cd : Value} {A : Around} {outer : List Env} {s : Shared} {H : Hp} {E : XK} :
    Passes (L2.CX P w) (cxOf (L2.CX P w) P w K mg base N q sc f cd A outer s H E) E :=
  fun pins σ H s e s' I c => passes_call (takes_of rfl rfl rfl rfl) (fun _ _ _ _ z => z) pins σ H s e s' I c
section
variable {X : Cx} {k j : Nat} {ps : List Str} {sp : Sp} {E : XK} {x : Str} {p pos : Pos} {e : Expr} {es : List Expr} {t : TA}
theorem pe_callC (C : Cal X.prog X.w X.K X.mg X.base k x ps sp) (hr : Room j X.A) (hj : k ≤ j) (hg : Gl X x) (hx : Passes (L2.CX X.prog X.w) X E) (ha : PA X (e :: es) t)
    (hdb : (x == ("__debug__" : Str)) = false := by decide) (he : starEach (e :: es) X.env = (false, eval e X.env) :: starEach es X.env := by rfl) (hpl : (backTo pos (starEach es X.env)).any (·.1) = false := by rfl) :
    PE X (.Call (.Name x p) (e :: es) [] pos) (tCall sp [] E t) := by
  obtain ⟨f, fd, F, hm, hk, hb⟩ := C.ex
  exact pe_call F (hr.mono hj) hg hm hk hb .nil hx ha hdb he hpl
end
def tRaise (E : XK) (C : Addr) : TS := fun _ _ H => E (.ref C) none H
structure ExcAt (K : PySem.W.Frag) (mg : Str → Option Value) (x : Str) (C : Addr) : Prop where
  g : mg x = some (.ref C)
  q : PySem.W.excIn K C [.type "ValueError", .type "Exception", .type "BaseException", .type "object"] "ValueError.__new__" = true
  k : PySem.W.keepIn K (.ref C) = true
  b : PySem.W.subIn K (.ref C) (.type "BaseException") = some true
  t : PySem.W.typeIn K (.ref C) = some (.type "type")
theorem ps_raiseC {P : Program} {w : World} {K : PySem.W.Frag} {mg : Str → Option Value} {base : Heap} {N : List Str} {q : Str} {sc : Scope} {f : Addr} {cd : Value} {A : Around} {outer : List Env} {s : Shared} {H : Hp} {E : XK}
    {x m : Str} {C : Addr} {j : Nat} {p p2 pos pos2 : Pos} (T : ExcAt K mg x C) (hg : Gl (cxOf (L2.CX P w) P w K mg base N q sc f cd A outer s H E) x) (hdb : (x == ("__debug__" : Str)) = false := by decide) :
    PS (cxOf (L2.CX P w) P w K mg base N q sc f cd A outer s H E) (.Raise (some (.Call (.Name x p) [.Constant (.str m) j p2] [] pos)) none pos2) (tRaise E C) :=
  ps_raise (W := fun cls d _ H => E cls d H) rfl (takes_of rfl rfl rfl rfl) (pmk_own PySem.F.excBase_ValueError T.q T.g T.k (raises_own T.b T.t) hg hdb)
def tChain3 (r r' r2 : R2) (ta tb tc td : TE) : TE := fun σ H Q => ta σ H fun x H1 => tb σ H1 fun y H2 => r x y H2 fun z H3 => ∃ k, z = .bl k ∧
  (if k = true then tc σ H3 fun w' H4 => r' y w' H4 fun z' H5 => ∃ k', z' = .bl k' ∧ (if k' = true then td σ H5 fun u' H6 => r2 w' u' H6 Q else Q (.bl false) H5) else Q (.bl false) H3)
theorem pt_chain3 {X : Cx} {a b c d : Expr} {ta tb tc td : TE} {pos : Pos} {op op' op2 : CmpOp} {r r' r2 : R2} (ho : OpR X (compareOp op) r) (ho' : OpR X (compareOp op') r') (ho2 : OpR X (compareOp op2) r2) (ha : PE X a ta) (hb : PE X b tb) (hc : PE X c tc) (hd : PE X d td)
    (hm : lastMarks [op, op', op2] [b, c, d] = false := by with_unfolding_all rfl) : PT X (.Compare a [op, op', op2] [b, c, d] pos) (tTest (tChain3 r r' r2 ta tb tc td)) := by
  refine ⟨fun pins s σ H Q I h => ?_⟩
  refine isTrue_chain (thn (ha.run pins s σ H _ I h) fun v s1 ⟨x, H1, I1, r1, q1⟩ => test_link (thn (hb.run pins s1 σ H1 _ I1 q1) fun u s2 ⟨y, H2, I2, r2, q2⟩ =>
    thn (ho pins s2 σ H2 x y v u _ I2 r1 r2 q2) fun d s3 ⟨z, H3, I3, r3, k, e, q3⟩ => ?_)) hm
  subst e
  cases r3
  refine wpAny_truthy_bool ?_
  cases k with
  | false =>
    obtain ⟨k', e', q'⟩ := q3
    cases e'
    exact ite_ff ⟨H3, I3, q'⟩
  | true =>
    refine ite_tt (test_link (thn (hc.run pins s3 σ H3 _ I3 q3) fun w' s4 ⟨z', H4, I4, r4, q4⟩ => thn (ho' pins s4 σ H4 y z' u w' _ I4 r2 r4 q4) fun d' s5 ⟨z2, H5, I5, r5, k2, e2, q5⟩ => ?_))
    subst e2
    cases r5
    refine wpAny_truthy_bool ?_
    cases k2 with
    | false =>
      obtain ⟨k', e', q'⟩ := q5
      cases e'
      exact ite_ff ⟨H5, I5, q'⟩
    | true =>
      refine ite_tt (test_last (thn (hd.run pins s5 σ H5 _ I5 q5) fun w2 s6 ⟨z3, H6, I6, r6, q6⟩ => thn (ho2 pins s6 σ H6 z' z3 w' w2 _ I6 r4 r6 q6) fun d2 s7 ⟨z4, H7, I7, r7, k4, e4, q7⟩ => ?_))
      subst e4
      cases r7
      exact wpAny_truthy_bool ⟨H7, I7, q7⟩
structure CalMk (P : Program) (w : World) (K : PySem.W.Frag) (mg : Str → Option Value) (base : Heap) (k : Nat) (x : Str) (C : Addr) (ps : List Str) (sp : Sp) : Prop where
  ex : ∃ f fd, Mk K C f ∧ FnOk P w K mg base (L2.CX P w) k f fd ps sp ∧ mg x = some (.ref C) ∧ Binds K fd ps []
section
variable {X : Cx} {k j : Nat} {C : Addr} {ps : List Str} {sp : Sp} {E : XK} {x : Str} {p pos : Pos} {e : Expr} {es : List Expr} {t : TA}
theorem pe_makeC (M : CalMk X.prog X.w X.K X.mg X.base k x C ps sp) (hr : Room j X.A) (hj : k + 1 ≤ j) (hg : Gl X x) (hx : Passes (L2.CX X.prog X.w) X E) (ha : PA X (e :: es) t)
    (hdb : (x == ("__debug__" : Str)) = false := by decide) (he : starEach (e :: es) X.env = (false, eval e X.env) :: starEach es X.env := by rfl) (hpl : (backTo pos (starEach es X.env)).any (·.1) = false := by rfl) :
    PE X (.Call (.Name x p) (e :: es) [] pos) (tMake C sp [] E t) := by
  obtain ⟨f, fd, hM, F, hm, hb⟩ := M.ex
  exact pe_make hM F (hr.mono hj) hg hm hb .nil hx ha hdb he hpl
end
def nTry (K : PySem.W.Frag) (c : Value) (E : XK) (tb : WX → TS) (ts : Addr → Value → Option Addr → TS) : TS := fun D σ H => tb (wOnly K c ts (fun cls d _ H => E cls d H) D) D σ H
def nTryAs (K : PySem.W.Frag) (c : Value) (i : Nat) (E : XK) (tb : WX → TS) (ts : Addr → Value → Option Addr → TS) : TS := fun D σ H => tb (wAs K c i ts (fun cls d _ H => E cls d H) D) D σ H
def tKnown (cls : Value) (d : Option Addr) (C : Value) (t : TS) : TS := fun D σ H => cls = C ∧ d = none ∧ t D σ H
end RB
namespace RB
open PySem PySem.Spec PyProof.Rows L2
section
variable {i j : Int} {H : Hp} {Q : VK} {σ : L2.St} {K : PySem.W.Frag} {x y v : V}
theorem nAdd_ap : nAdd (.int i) (.int j) H Q = Q (.int (i + j)) H := by simp [nAdd, rI0]
theorem nSub_ap : nSub (.int i) (.int j) H Q = Q (.int (i - j)) H := by simp [nSub, rI0]
theorem nLt_ap : nLt (.int i) (.int j) H Q = Q (.bl (decide (i < j))) H := by simp [nLt, rI0]
theorem nLe_ap : nLe (.int i) (.int j) H Q = Q (.bl (decide (i ≤ j))) H := by simp [nLe, rI0]
theorem nGt_ap : nGt (.int i) (.int j) H Q = Q (.bl (decide (j < i))) H := by simp [nGt, rI0]
theorem nGe_ap : nGe (.int i) (.int j) H Q = Q (.bl (decide (j ≤ i))) H := by simp [nGe, rI0]
theorem nMul_ap : nMul (.int i) (.int j) H Q = (CMul i j ∧ Q (.int (i * j)) H) := by simp [nMul, rI]
theorem nMulW_ap : nMulW (.int i) (.int j) H Q = (CMulW i j ∧ Q (.int (i * j)) H) := by simp [nMulW, rI]
theorem nDiv_ap : nDiv (.int i) (.int j) H Q = (CDiv i j ∧ Q (.int (i / j)) H) := by simp [nDiv, rI]
theorem nMod_ap : nMod (.int i) (.int j) H Q = (0 < j ∧ Q (.int (i % j)) H) := by simp [nMod, rI]
theorem nPow_ap : nPow (.int i) (.int j) H Q = (CPow i j ∧ Q (.int (i ^ j.toNat)) H) := by simp [nPow, rI]
theorem nNeg_ap : nNeg (.int i) H Q = Q (.int (-i)) H := by simp [nNeg, rU]
theorem nMax_ap : nMax [.int i, .int j] H Q = Q (.int (max i j)) H := by
  have e : (if j > i then j else i) = max i j := by split <;> omega
  apply propext
  constructor
  · rintro ⟨a, b, h, q⟩
    cases h
    rw [e] at q
    exact q
  · intro q
    exact ⟨i, j, rfl, by rw [e]; exact q⟩
theorem nMin_ap : nMin [.int i, .int j] H Q = Q (.int (min i j)) H := by
  have e : (if j < i then j else i) = min i j := by split <;> omega
  apply propext
  constructor
  · rintro ⟨a, b, h, q⟩
    cases h
    rw [e] at q
    exact q
  · intro q
    exact ⟨i, j, rfl, by rw [e]; exact q⟩
theorem rEq_ap : rEq (.int i) (.int j) H Q = Q (.bl (decide (i = j))) H := by simp [rEq, scal]
theorem rNe_ap : rNe (.int i) (.int j) H Q = Q (.bl (!decide (i = j))) H := by simp [rNe, scal]
theorem nIs_ap : nIs x .non H Q = Q (.bl (decide (x = .non))) H := by simp [nIs]
theorem nIsNot_ap : nIsNot x .non H Q = Q (.bl (!decide (x = .non))) H := by simp [nIsNot]
theorem ex_bl {b : Bool} {p : Bool → Prop} : (∃ x, V.bl b = V.bl x ∧ p x) = p b := by simp
theorem ex_int {b : Int} {p : Int → Prop} : (∃ x, V.int b = V.int x ∧ p x) = p b := by simp
theorem ex_some {a : V} {p : V → Prop} : (∃ x, (some (some a) : Option (Option V)) = some (some x) ∧ p x) = p a := by simp
theorem dec_int_non : decide (V.int i = V.non) = false := rfl
theorem dec_ref_non {p : Addr} : decide (V.ref p = V.non) = false := rfl
theorem dec_non_non : decide (V.non = V.non) = true := rfl
theorem nLen_ap {p : Addr} {ys : List V} (h : SqL K H p ys) (q : Q (.int ys.length) H) : nLen K [.ref p] H Q := ⟨p, ys, rfl, .inl h, q⟩
def nFld (K : PySem.W.Frag) (f : Str) (x : V) (H : Hp) (Q : VK) : Prop := ∃ a C dx fs v, x = V.ref a ∧ H a = some (.ins C dx fs) ∧ Cls K C ∧ NoAttr K C f ∧ fs.lookup f = some v ∧ Q v H
theorem tFld_ap {ta : TE} {f : Str} : tFld K ta f σ H Q = ta σ H fun x H1 => nFld K f x H1 Q := rfl
theorem nFld_ap {f : Str} {a C dx : Addr} {fs : List (Str × V)} (h : H a = some (.ins C dx fs)) (c : Cls K C) (n : NoAttr K C f) (l : fs.lookup f = some v) : nFld K f (.ref a) H Q = Q v H := by
  apply propext
  constructor
  · rintro ⟨a', C', dx', fs', v', e, h', _, _, l', q⟩
    cases e
    rw [h] at h'
    cases h'
    rw [l] at l'
    cases l'
    exact q
  · intro q
    exact ⟨a, C, dx, fs, v, rfl, h, c, n, l, q⟩
theorem isi_int_int : rIsi K [.int i, .ty "int"] H Q = Q (.bl true) H := by
  apply propext
  constructor
  · rintro ⟨x, c, t, u, b, e, k, ty, ki, q⟩
    cases e
    cases k
    cases ty with
    | base h => cases h; cases (show PySem.W.kitOne K (.type "int") (.type "int") = some true from kit_ty (by decide +kernel)).symm.trans ki; exact q
  · intro q
    exact ⟨_, _, _, _, true, rfl, .ty _, .base (.int i), kit_ty (by decide +kernel), q⟩
theorem isi_int_bool : rIsi K [.int i, .ty "bool"] H Q = Q (.bl false) H := by
  apply propext
  constructor
  · rintro ⟨x, c, t, u, b, e, k, ty, ki, q⟩
    cases e
    cases k
    cases ty with
    | base h => cases h; cases (show PySem.W.kitOne K (.type "int") (.type "bool") = some false from kit_ty (by decide +kernel)).symm.trans ki; exact q
  · intro q
    exact ⟨_, _, _, _, false, rfl, .ty _, .base (.int i), kit_ty (by decide +kernel), q⟩
theorem ite_tt' {A B : Prop} : (if true = true then A else B) = A := by simp
theorem ite_ff' {A B : Prop} : (if false = true then A else B) = B := by simp
end
theorem same_new {H : Hp} {p : Addr} (h : H p = none) (o : HO) : Same H (upd H p o) := fun b u q => by rw [upd_ne (ne_of_none q h)]; exact q
def Ins (H H' : Hp) : Prop := ∀ b C dx fs, H b = some (.ins C dx fs) → H' b = some (.ins C dx fs)
theorem Ins.refl (H : Hp) : Ins H H := fun _ _ _ _ h => h
theorem Ins.trans {H H1 H2 : Hp} (a : Ins H H1) (b : Ins H1 H2) : Ins H H2 := fun x C dx fs h => b x C dx fs (a x C dx fs h)
theorem Ins.same {H H' : Hp} (s : Same H H') : Ins H H' := fun b C dx fs h => s b _ h
theorem Ins.lst {H : Hp} {p : Addr} {xs : List V} (h : H p = some (.lst xs)) (ys : List V) : Ins H (upd H p (.lst ys)) := fun b C dx fs q => by
  rw [upd_ne (ne_of q h (by intro z; cases z))]
  exact q
theorem ref_non {p : Addr} : (V.ref p = V.non) = False := by simp
theorem int_non {i : Int} : (V.int i = V.non) = False := by simp
theorem non_ref {p : Addr} : (V.non = V.ref p) = False := by simp
theorem non_int {i : Int} : (V.non = V.int i) = False := by simp
theorem small {n : Nat} (h : n ≤ 1000) : n ≤ sizeLine := Nat.le_of_lt (small1000 h)
theorem size_of {n : Nat} (h : n ≤ 16000000) : n < sizeLine := Nat.lt_of_le_of_lt h (by decide)
theorem wipe_one {σ : L2.St} {i : Nat} {x : V} : wipe ((wipe σ [i]).set i (some x)) [i] = wipe σ [i] := by
  simp [wipe, List.set_set]
theorem take_more {α : Type} {l : List α} {i : Nat} {x : α} (h : l[i]? = some x) : l.take (i + 1) = l.take i ++ [x] := by
  rw [List.take_add_one, h]
  rfl
def nLc (K : PySem.W.Frag) (elt : TE) (i : Nat) (σ : L2.St) (x : V) (H : Hp) (Q : VK) : Prop := tLc (iList K (tC x)) (gName i) tYes elt [i] σ H Q
theorem tLc_ap {K : PySem.W.Frag} {te elt : TE} {i : Nat} {σ : L2.St} {H : Hp} {Q : VK} : tLc (iList K te) (gName i) tYes elt [i] σ H Q = te σ H fun x H1 => nLc K elt i σ x H1 Q := rfl
def nLcR (elt : TE) (i : Nat) (σ : L2.St) (vs : List V) (H : Hp) (Q : VK) : Prop := tLc (iRng1 fun _ H Q => Q vs H) (gName i) tYes elt [i] σ H Q
theorem tLcR_ap {ta : TA} {elt : TE} {i : Nat} {σ : L2.St} {H : Hp} {Q : VK} : tLc (iRng1 ta) (gName i) tYes elt [i] σ H Q = ta σ H fun vs H1 => nLcR elt i σ vs H1 Q := rfl
theorem dp_ints {K : PySem.W.Frag} {H : Hp} : ∀ xs : List Int, DpAll K H (xs.map V.int) (xs.map PyData.int)
  | [] => .nil
  | x :: r => .cons (.int x) (dp_ints r)
theorem ty_lst {K : PySem.W.Frag} {H : Hp} {p : Addr} {xs : List V} (h : H p = some (.lst xs)) : tyV K "list" (.ref p) H := Or.inl ⟨rfl, _, SqL.of h⟩
theorem app_ap {H : Hp} {Q : VK} {p : Addr} {xs : List V} {y : V} (h : H p = some (.lst xs)) (hz : xs.length ≤ 16000000) (q : Q .non (upd H p (.lst (xs ++ [y])))) : rAppend (.ref p) [y] H Q :=
  ⟨p, xs, y, rfl, rfl, h, size_of hz, q⟩
theorem ixL_ap {K : PySem.W.Frag} {H : Hp} {Q : VK} {p : Addr} {xs : List V} {j : Nat} {v : V} (h : SqL K H p xs) (hj : xs[j]? = some v) (q : Q v H) : rIxL K (.ref p) (.int j) H Q :=
  ⟨p, xs, j, v, rfl, rfl, h, atI_nat hj, q⟩
theorem ixT_ap {K : PySem.W.Frag} {H : Hp} {Q : VK} {p : Addr} {xs : List V} {j : Nat} {v : V} (h : SqT K H p xs) (hj : xs[j]? = some v) (q : Q v H) : rIxT K (.ref p) (.int j) H Q :=
  ⟨p, xs, j, v, rfl, rfl, h, atI_nat hj, q⟩
def nFor (K : PySem.W.Frag) (i : Nat) (tb : TS) (x : V) (D : Ends) (σ : L2.St) (H : Hp) : Prop := tFor (iList K (tC x)) (gName i) tb D σ H
theorem tFor_ap {K : PySem.W.Frag} {te : TE} {i : Nat} {tb : TS} {D : Ends} {σ : L2.St} {H : Hp} : tFor (iList K te) (gName i) tb D σ H = te σ H fun x H1 => nFor K i tb x D σ H1 := rfl
def nForR (i : Nat) (tb : TS) (vs : List V) (D : Ends) (σ : L2.St) (H : Hp) : Prop := tFor (iRng1 fun _ H Q => Q vs H) (gName i) tb D σ H
theorem tForR_ap {ta : TA} {i : Nat} {tb : TS} {D : Ends} {σ : L2.St} {H : Hp} : tFor (iRng1 ta) (gName i) tb D σ H = ta σ H fun vs H1 => nForR i tb vs D σ H1 := rfl
def nForR2 (i : Nat) (tb : TS) (vs : List V) (D : Ends) (σ : L2.St) (H : Hp) : Prop := tFor (iRng2 fun _ H Q => Q vs H) (gName i) tb D σ H
theorem tForR2_ap {ta : TA} {i : Nat} {tb : TS} {D : Ends} {σ : L2.St} {H : Hp} : tFor (iRng2 ta) (gName i) tb D σ H = ta σ H fun vs H1 => nForR2 i tb vs D σ H1 := rfl
end RB
namespace RB
open PySem PySem.Spec PyProof.Rows L2 LamX NdefX
def lamAr : Expr → Arguments
  | .Lambda a _ _ _ => a
  | _ => ⟨[], [], none, [], [], none, []⟩
def lamE : Expr → Expr
  | .Lambda _ e _ _ => e
  | e => e
def lamSc : Expr → Scope
  | .Lambda _ _ s _ => s
  | _ => ⟨.function, [], false, false, []⟩
def lamOf : List Stmt → Expr
  | [.Return (some (.Call _ [_, _, _, l] _ _)) _] => l
  | _ => .Constant .none 0 ⟨0, 0, 0, 0⟩
structure LF where
  q : Str
  l : Expr
  cl : List (Str × Addr)
  c : Addr
def LF.nf (F : LF) : NF := ⟨"<lambda>", F.q, lamAr F.l, [], lamSc F.l, F.cl, F.c⟩
def LF.fd (F : LF) (pm ctv : Value) : FuncData := PySem.W.kla_fn "<lambda>" F.q (lamAr F.l) (lamE F.l) (lamSc F.l) F.cl pm (.ref F.c) ctv
structure GL (f : Addr) (F : LF) (fr : List Str) (ws : List (Option V)) (outer : List Env) (s : Shared) (H : Hp) : Prop where
  at_ : ∃ pm ctv : Value, s.heap.get? f = some ({ cls := .type "function", data := .func (F.fd pm ctv) } : Obj)
  free : H f = none
  nofr : f ∉ frs outer
  cells : CellsAt F.cl fr ws s.heap H
  cfr : ∀ y c, F.cl.lookup y = some c → c ∉ frs outer
section
variable {P : Program} {w : World} {K : PySem.W.Frag} {mg : Str → Option Value} {base : Heap} {f : Addr} {F : LF} {ps fr N : List Str} {ws : List (Option V)} {sp : Sp} {k j : Nat}
theorem frs_cons {env : Env} {L : Addr} {outer : List Env} (h : env.frame = some L) {b : Addr} : b ∈ frs (env :: outer) ↔ b = L ∨ b ∈ frs outer := by
  unfold frs
  rw [List.filterMap_cons, h]
  exact List.mem_cons
theorem GL.later {q : Str} {sc : Scope} {g : Addr} {cd : Value} {A : Around} {outer : List Env} {s0 s : Shared} {H0 H : Hp} {E : XK} {pins : List (Addr × Obj)} {σ : L2.St}
    (G : GL f F fr ws outer s0 H0) (I : Inv (cxOf (L2.CX P w) P w K mg base N q sc g cd A outer s0 H0 E) pins σ H s) : GL f F fr ws (cxOf (L2.CX P w) P w K mg base N q sc g cd A outer s0 H0 E).stack s H := by
  obtain ⟨pm, ctv, ho⟩ := G.at_
  have lt0 : ∀ b o, s0.heap.get? b = some o → b ≠ s0.heap.objs.size := fun b o e z => Nat.lt_irrefl _ (z ▸ Heap.lt_size e)
  have un : Un (frs outer) [] H0 H s0.heap s.heap := I.base
  refine ⟨⟨pm, ctv, un.keep f _ ho G.free G.nofr (by simp)⟩, un.free f _ ho G.free (by simp), fun z => ?_, G.cells.later (X := cxOf (L2.CX P w) P w K mg base N q sc g cd A outer s0 H0 E) G.cfr (fun y c _ z => by cases (show c ∈ ([] : List Addr) from z)) I, fun y c e z => ?_⟩
  · rcases (frs_cons (L := s0.heap.objs.size) rfl).mp z with z | z
    · exact lt0 _ _ ho z
    · exact G.nofr z
  · obtain ⟨_, v, o, hc, _⟩ := G.cells.all y c e
    rcases (frs_cons (L := s0.heap.objs.size) rfl).mp z with z | z
    · exact lt0 _ _ hc z
    · exact G.cfr y c e z
structure LOk (P : Program) (w : World) (K : PySem.W.Frag) (mg : Str → Option Value) (base : Heap) (k : Nat) (f : Addr) (F : LF) (fr : List Str) (ws : List (Option V)) (sp : Sp) : Prop where
  run : ∀ (A : Around) (outer : List Env) (s : Shared) (H : Hp) (us : List Value) (vs : List V) (Q : VK) (E : XK), Room k A → Env0 P w K mg base A outer s H → GL f F fr ws outer s H → H F.c = some (CodeO F.c F.q) → Vals vs us → sp vs H Q E →
    codeAny (model P w) A (.call (.ref f) ⟨us, []⟩) (CR (L2.CX P w) outer P w H s Q E) s
theorem LOk.mono (o : LOk P w K mg base j f F fr ws sp) (h : j ≤ k) : LOk P w K mg base k f F fr ws sp := ⟨fun A outer s H us vs Q E hr => o.run A outer s H us vs Q E (hr.mono h)⟩
theorem lok_of (S : NScope N ps fr (lamSc F.l)) (hb : ∀ (pm ctv : Value) (us : List Value), us.length = ps.length → bindArgs (F.fd pm ctv) ⟨us, []⟩ = pure (ps.zip us)) (len : ∀ vs H Q E, sp vs H Q E → vs.length = ps.length) (t : XK → TE)
    (der : ∀ (A : Around) (outer : List Env) (s : Shared) (H : Hp) (E : XK), Room k (A.deeper (envF F.nf f s.heap.objs.size)) → PE (ncx (L2.CX P w) P w K mg base N F.nf f A outer s H E) (lamE F.l) (t E))
    (pure : ∀ vs H Q E, sp vs H Q E → t E (startF N vs ws) H Q) : LOk P w K mg base (k + 1) f F fr ws sp := by
  refine ⟨fun A outer s H us vs Q E hr e0 G hc r hsp => ?_⟩
  have hl := len _ _ _ _ hsp
  have lim : s.heap.NoLimit := e0.mod.nolimit.keeps fun b o e => (e0.bs b o e).1
  obtain ⟨pm, ctv, ho⟩ := G.at_
  refine PySem.W.kla_callFunE hr.depth ho rfl S.co S.gen rfl (codeO_at e0.hok hc) ?_
  rw [hb pm ctv us (by rw [← r.length]; exact hl)]
  refine wpAny_pure (wpAny_newFunctionEnv S.nocell (fun ⟨n, _⟩ hy => S.par n (List.of_mem_zip hy).1) (fun h₁ hns hsb => ⟨lim.fresh _ hsb, ?_⟩) S.kind)
  show codeAny _ _ (.expr (lamE F.l) (envF F.nf f s.heap.objs.size)) _ _
  have kp : ∀ b o, s.heap.get? b = some o → h₁.get? b = some o := fun b o e => hsb.extBut b o (Nat.ne_of_lt (Heap.lt_size e)) (Heap.get?_push_of_some _ e)
  have I : Inv (ncx (L2.CX P w) P w K mg base N F.nf f A outer s H E) [] (startF N vs ws) H { s with heap := h₁, toks := s.toks + (ps.zip us).length } := inv_startN S hr.hd e0 hl r G.cells hns kp
  refine PySem.W.kla_codeExpr (wpAny_mono ((der A outer s H E (hr.deeper _)).run [] _ (startF N vs ws) H Q I (pure _ _ _ _ hsp)) (fun u s' hs => ?_) fun e s' hs => hs)
  obtain ⟨v, H', J, rv, q⟩ := hs
  exact ⟨v, H', J.os, J.bare, J.base, J.hok, rv, q⟩
structure CalG (P : Program) (w : World) (K : PySem.W.Frag) (mg : Str → Option Value) (base : Heap) (k : Nat) (x : Str) (ps : List Str) (g : List Env → Shared → Hp → Prop) (sp : Sp) : Prop where
  ex : ∃ (fa : Addr) (fd : FuncData), (∀ (A : Around) (outer : List Env) (s : Shared) (H : Hp) (args : Args) (us : List Value) (vs : List V) (Q : VK) (E : XK), Room k A → Env0 P w K mg base A outer s H → g outer s H → BindsTo s fd args (ps.zip us) → Vals vs us → sp vs H Q E →
      codeAny (model P w) A (.call (.ref fa) args) (CR (L2.CX P w) outer P w H s Q E) s) ∧ (∀ vs H Q E, sp vs H Q E → vs.length = ps.length) ∧ mg x = some (.ref fa) ∧ PySem.W.keepIn K (.ref fa) = true ∧ Binds K fd ps []
variable {g : List Env → Shared → Hp → Prop} {x : Str} {st : Stmt}
theorem CalG.mono (C : CalG P w K mg base j x ps g sp) (h : j ≤ k) : CalG P w K mg base k x ps g sp := by
  obtain ⟨fa, fd, run, r⟩ := C.ex
  exact ⟨fa, fd, fun A outer s H args us vs Q E hr => run A outer s H args us vs Q E (hr.mono h), r⟩
theorem DefAt.calG (D : DefAt K mg x st ps) (S : FnScope N ps (defScope st)) (len : ∀ vs H Q E, sp vs H Q E → vs.length = ps.length) (t : XK → TS)
    (der : ∀ (fa : Addr) (cdv : Value) (A : Around) (outer : List Env) (s : Shared) (H : Hp) (E : XK), g outer s H → Room k (A.deeper (envOfC x (defScope st) s.heap.objs.size fa cdv)) → PSs (cxOf (L2.CX P w) P w K mg base N x (defScope st) fa cdv A outer s H E) (defBody st) (t E))
    (pure : ∀ vs H Q E, sp vs H Q E → t E { nx := fun _ H' => Q .non H', rt := Q } (start N vs) H) : CalG P w K mg base (k + 1) x ps g sp := by
  obtain ⟨fa, fd, F, hm, hb⟩ := D.ex
  refine ⟨fa, fd, fun A outer s H args us vs Q E hr e0 hg hbt r hsp => ?_, len, hm, F.kp, hb⟩
  obtain ⟨oc, od, kV, doc, pm, an, cdv, ct, osl, rfl, lk, hcd⟩ := F.ex
  exact run_ofS lk hcd S hr e0 hbt r (len _ _ _ _ hsp) fun hr' => ⟨t E, der _ _ _ _ _ _ _ hg hr', pure _ _ _ _ hsp⟩
theorem DefAt.noneG (D : DefAt K mg x st ps) (no : ∀ vs H Q E, ¬ sp vs H Q E) : CalG P w K mg base k x ps g sp := by
  obtain ⟨fa, fd, F, hm, hb⟩ := D.ex
  exact ⟨fa, fd, fun A outer s H args us vs Q E _ _ _ _ _ h => absurd h (no vs H Q E), fun vs H Q E h => absurd h (no vs H Q E), hm, F.kp, hb⟩
end
section
variable {X : Cx} {k j i : Nat} {ps fr : List Str} {sp : Sp} {E : XK} {x : Str} {p pos : Pos} {e e1 e2 e3 l : Expr} {es : List Expr} {t : TA} {t1 t2 t3 : TE} {g : List Env → Shared → Hp → Prop} {f : Addr} {F : LF} {ws : List (Option V)}
theorem run_g {pins : List (Addr × Obj)} {σ : L2.St} {H : Hp} {s : Shared} {Q : VK} {fa : Addr} {fd : FuncData} {us : List Value} {vs : List V}
    (run : ∀ (A : Around) (outer : List Env) (s : Shared) (H : Hp) (args : Args) (us : List Value) (vs : List V) (Q : VK) (E : XK), Room k A → Env0 X.prog X.w X.K X.mg X.base A outer s H → g outer s H → BindsTo s fd args (ps.zip us) → Vals vs us → sp vs H Q E →
      codeAny (model X.prog X.w) A (.call (.ref fa) args) (CR (L2.CX X.prog X.w) outer X.prog X.w H s Q E) s) (len : ∀ vs H Q E, sp vs H Q E → vs.length = ps.length)
    (hb : Binds X.K fd ps []) (hr : Room k X.A) (hx : Passes (L2.CX X.prog X.w) X E) (I : Inv X pins σ H s) (hg : g X.stack s H) (r : Vals vs us) (q : sp vs H Q E) : wpAny (model X.prog X.w) X.A (call (.ref fa) us) (EP X pins σ Q) X.xe s := by
  have hl : us.length = ps.length := by rw [← r.length]; exact len _ _ _ _ q
  have b := hb s us I.kIn (by rw [List.append_nil]; exact hl)
  rw [List.append_nil] at b
  refine wpAny_call (codeAny_mono (run X.A X.stack s H ⟨us, []⟩ us vs Q E hr I.env0 hg b r q) fun r s' hq => ?_)
  cases r with
  | error e => exact hx pins σ H s e s' I hq
  | ok fl =>
    cases fl with
    | ret u => exact I.after hq
    | next => exact False.elim hq
    | brk => exact False.elim hq
    | cont => exact False.elim hq
theorem pe_callG (C : CalG X.prog X.w X.K X.mg X.base k x ps g sp) (hr : Room j X.A) (hj : k ≤ j) (hG : ∀ pins σ H s, Inv X pins σ H s → g X.stack s H) (hg : Gl X x) (hx : Passes (L2.CX X.prog X.w) X E) (ha : PA X (e :: es) t)
    (hdb : (x == ("__debug__" : Str)) = false := by decide) (he : starEach (e :: es) X.env = (false, eval e X.env) :: starEach es X.env := by rfl) (hpl : (backTo pos (starEach es X.env)).any (·.1) = false := by rfl) :
    PE X (.Call (.Name x p) (e :: es) [] pos) (tCall sp [] E t) := by
  obtain ⟨fa, fd, run, len, hm, hk, hb⟩ := C.ex
  refine ⟨fun pins s σ H Q I h => ?_⟩
  refine wpAny_Call_Name_kw (ld_glob I hg hm ?_ hdb)
  refine PySem.W.callWith_K (h₀ := X.base) I.ok.mod.kin hk (thn (ha.run pos pins s σ H _ I h) fun us s1 ⟨vs, H1, I1, r, q⟩ => ⟨I1.kIn, ?_⟩) he hpl
  have q' : sp vs H1 Q E := by
    have z : sp (vs ++ []) H1 Q E := q
    rw [List.append_nil] at z
    exact z
  exact run_g run len hb (hr.mono hj) hx I1 (hG _ _ _ _ I1) r q'
def tCallV (i : Nat) (f : Addr) (F : LF) (sp : Sp) (E : XK) (t : TA) : TE := fun σ H Q => σ[i]? = some (some (.ref f)) ∧ t σ H fun vs H1 => H1 F.c = some (CodeO F.c F.q) ∧ sp vs H1 Q E
theorem pe_callV (L : LOk X.prog X.w X.K X.mg X.base k f F fr ws sp) (hr : Room j X.A) (hj : k ≤ j) (hG : ∀ pins σ H s, Inv X pins σ H s → GL f F fr ws X.stack s H) (hN : X.N[i]? = some x) (hv : Vis X.env.scope x) (hx : Passes (L2.CX X.prog X.w) X E) (ha : PA X (e :: es) t)
    (hd : (x == ("__debug__" : Str)) = false := by decide) (hcd : (x == ("__classdict__" : Str)) = false := by decide)
    (he : starEach (e :: es) X.env = (false, eval e X.env) :: starEach es X.env := by rfl) (hpl : (backTo pos (starEach es X.env)).any (·.1) = false := by rfl) :
    PE X (.Call (.Name x p) (e :: es) [] pos) (tCallV i f F sp E t) := by
  refine ⟨fun pins s σ H Q I h => ?_⟩
  obtain ⟨hs, ht⟩ := h
  refine wpAny_Call_Name_kw (thn ((pe_var (pos := p) hN hv hd hcd).run pins s σ H (fun v H1 => v = .ref f ∧ H1 = H) I ⟨.ref f, hs, rfl, rfl⟩) fun u s1 ⟨v, H1, I1, r1, q1⟩ => ?_)
  obtain ⟨ev, eH⟩ := q1
  subst ev
  rw [eH] at I1
  obtain rfl : u = Value.ref f := r1
  have fat : ∀ {pins σ H s}, Inv X pins σ H s → PySem.W.FnAt f s.heap := fun J => by
    obtain ⟨pm, ctv, z⟩ := (hG _ _ _ _ J).at_
    exact ⟨_, _, _, _, z⟩
  refine PySem.W.callWith_F (first := []) (fat I1) (thn (ha.run pos pins s1 σ H _ I1 ht) fun us s2 ⟨vs, H2, I2, r, h2, q⟩ => ⟨fat I2, ?_⟩) he hpl
  show wpAny _ _ (call (.ref f) us) _ _ _
  refine wpAny_call (codeAny_mono (L.run X.A X.stack s2 H2 us vs Q E (hr.mono hj) I2.env0 (hG _ _ _ _ I2) h2 r q) fun r s' hq => ?_)
  cases r with
  | error e => exact hx pins σ H2 s2 e s' I2 hq
  | ok fl =>
    cases fl with
    | ret u => exact I2.after hq
    | next => exact False.elim hq
    | brk => exact False.elim hq
    | cont => exact False.elim hq
end
structure LF.Is (F : LF) (q : Str) (l : Expr) : Prop where
  q : F.q = q
  l : F.l = l
def tLam3 (T : List (Addr × Str)) (q : Str) (l : Expr) (js : List Nat) (sp : Addr → LF → List (Option V) → Sp) (E : XK) (t1 t2 t3 : TE) : TE := fun σ H Q => t1 σ H fun v1 H1 => t2 σ H1 fun v2 H2 => t3 σ H2 fun v3 H3 => Tabs T H3 ∧
  ∀ (f : Addr) (F : LF) (H4 : Hp), F.Is q l → ExtN H3 H4 → Tabs T H4 → H4 F.c = some (CodeO F.c F.q) → sp f F (js.map (slotAt σ)) [v1, v2, v3, .ref f] H4 Q E
section
variable {X : Cx} {k j : Nat} {ps fr : List Str} {E : XK} {x q : Str} {p pos lpos : Pos} {e1 e2 e3 l : Expr} {t1 t2 t3 : TE} {js : List Nat} {T : List (Addr × Str)} {c Pt : Addr} {sp : Addr → LF → List (Option V) → Sp}
theorem gl_made {pins : List (Addr × Obj)} {σ : L2.St} {H : Hp} {s : Shared} {f : Addr} {F : LF} (I : Inv X pins σ H s) (hfn : ∀ y, X.fn y = true) (ho : ∃ pm ctv : Value, s.heap.get? f = some ({ cls := .type "function", data := .func (F.fd pm ctv) } : Obj)) (hf : H f = none) (hr : f ∉ frs X.stack)
    (hcl : F.cl = cloFrom X.env.cells (lamSc F.l).names []) (hfree : ∀ y ∈ (lamSc F.l).names, y.2 = .free → X.env.scope.names.lookup y.1 = some .cell ∨ X.env.scope.names.lookup y.1 = some .free) (hfr : ∀ y ∈ fr, (y, NameKind.free) ∈ (lamSc F.l).names)
    (hjs : js.map (fun j => X.N[j]?) = fr.map some) : GL f F fr (js.map (slotAt σ)) X.stack s H := by
  have C := Caps.made I.ok hfree hfr hjs
  rw [← hcl] at C
  refine ⟨ho, hf, hr, cells_of I C, fun y c e z => ?_⟩
  have ec := C.sub y c e
  rcases List.mem_cons.mp (I.stkSub _ z) with z | z
  · exact I.cne y c ec z
  · obtain ⟨_, o, ho, _⟩ := I.ok.funs.mem z
    exact Nat.lt_irrefl _ (Nat.lt_of_lt_of_le (Heap.lt_size ho) (I.ok.cab y c (hfn y) ec))
theorem pe_lamcall3 (C : ∀ (f : Addr) (F : LF) (ws : List (Option V)), F.Is q l → CalG X.prog X.w X.K X.mg X.base k x ps (GL f F fr ws) (sp f F ws)) (hr : Room j X.A) (hj : k ≤ j) (hg : Gl X x) (hx : Passes (L2.CX X.prog X.w) X E) (hfn : ∀ y, X.fn y = true)
    (h1 : PE X e1 t1) (h2 : PE X e2 t2) (h3 : PE X e3 t3) (hl : l = .Lambda (lamAr l) (lamE l) (lamSc l) lpos) (TB : TabB X.base X.mg c Pt) (hcode : X.env.code = .ref c) (hq : X.env.qual ++ "<lambda>" = q) (hm : (Pt, q) ∈ T) (hu : ∀ p ∈ T, p.1 = Pt → p.2 = q)
    (hdef : defaultsOf (lamAr l) X.env = ([], [])) (hfree : ∀ y ∈ (lamSc l).names, y.2 = .free → X.env.scope.names.lookup y.1 = some .cell ∨ X.env.scope.names.lookup y.1 = some .free) (hfr : ∀ y ∈ fr, (y, NameKind.free) ∈ (lamSc l).names)
    (hjs : js.map (fun j => X.N[j]?) = fr.map some)
    (hdb : (x == ("__debug__" : Str)) = false := by decide) (he : starEach (e1 :: [e2, e3, l]) X.env = (false, eval e1 X.env) :: starEach [e2, e3, l] X.env := by rfl) (hpl : (backTo pos (starEach [e2, e3, l] X.env)).any (·.1) = false := by rfl)
    (hs : spliced (backTo pos (starEach [e1, e2, e3, l] X.env)) = spliced [(false, eval e1 X.env), (false, eval e2 X.env), (false, eval e3 X.env), (false, eval l X.env)] := by rfl) :
    PE X (.Call (.Name x p) [e1, e2, e3, l] [] pos) (tLam3 T q l js sp E t1 t2 t3) := by
  refine ⟨fun pins s σ H Q I h => ?_⟩
  have nolam : ∀ y ∈ (lamSc l).names, y.2 = .free → ∃ c, X.env.cells.lookup y.1 = some c := fun y hy e => (hfree y hy e).elim (fun z => I.ok.has _ (.inl z)) fun z => I.ok.has _ (.inr z)
  obtain ⟨fa, fd, _, _, hm', hk, _⟩ := (C 0 ⟨q, l, [], 0⟩ [] ⟨rfl, rfl⟩).ex
  refine wpAny_Call_Name_kw (ld_glob I hg hm' ?_ hdb)
  refine PySem.W.callWith_K (h₀ := X.base) I.ok.mod.kin hk ?_ he hpl
  rw [hs]
  refine Calls.spliced_cons (thn (h1.run pins s σ H _ I h) fun u1 s1 ⟨v1, H1, I1, r1, q1⟩ => ?_)
  refine Calls.spliced_cons (thn (h2.run pins s1 σ H1 _ I1 q1) fun u2 s2 ⟨v2, H2, I2, r2, q2⟩ => ?_)
  refine Calls.spliced_cons (thn (h3.run pins s2 σ H2 _ I2 q2) fun u3 s3 ⟨v3, H3, I3, r3, hT, q3⟩ => ?_)
  refine Calls.spliced_cons ?_
  have e0 : eval l X.env = eval (.Lambda (lamAr l) (lamE l) (lamSc l) lpos) X.env := congrArg (fun z => eval z X.env) hl
  rw [e0]
  refine lam_make2 I3 TB hcode (by rw [hq]; exact hm) (by rw [hq]; exact hu) hT hdef nolam fun f c' pm' ctv H4 s4 I4 eN T4 hf hfn4 hfr4 hco => ?_
  have hF : LF.Is ⟨q, l, cloFrom X.env.cells (lamSc l).names [], c'⟩ q l := ⟨rfl, rfl⟩
  obtain ⟨fa2, fd2, run, len, hm2, hk2, hb⟩ := (C f ⟨q, l, cloFrom X.env.cells (lamSc l).names [], c'⟩ (js.map (slotAt σ)) hF).ex
  rw [hm'] at hm2
  cases hm2
  refine Calls.spliced_nil ⟨I4.kIn, ?_⟩
  rw [hq] at hf hco
  have G : GL f ⟨q, l, cloFrom X.env.cells (lamSc l).names [], c'⟩ fr (js.map (slotAt σ)) X.stack s4 H4 := gl_made I4 hfn ⟨pm', ctv, hf⟩ hfn4 hfr4 rfl hfree hfr hjs
  exact run_g run len hb (hr.mono hj) hx I4 G (.cons r1 (.cons r2 (.cons r3 (.cons (show L2.RelV (.ref f) (.ref f) from rfl) .nil)))) (q3 f _ H4 hF eN T4 hco)
end
structure CalD (P : Program) (w : World) (K : PySem.W.Frag) (mg : Str → Option Value) (base : Heap) (k : Nat) (x : Str) (ps : List Str) (dvs : List V) (sp : Sp) : Prop where
  ex : ∃ f fd, FnOk P w K mg base (L2.CX P w) k f fd ps sp ∧ mg x = some (.ref f) ∧ PySem.W.keepIn K (.ref f) = true ∧ Binds K fd ps [] ∧ ∃ ds, Vals dvs ds ∧ Binds K fd ps ds
structure DefAtD (K : PySem.W.Frag) (mg : Str → Option Value) (x : Str) (st : Stmt) (ps : List Str) (dvs : List V) : Prop where
  ex : ∃ f fd, FunD K x x (defArgs st) (defBody st) (defScope st) dvs [] f fd ∧ mg x = some (.ref f) ∧ Binds K fd ps [] ∧ ∃ ds, Vals dvs ds ∧ Binds K fd ps ds
section
variable {P : Program} {w : World} {K : PySem.W.Frag} {mg : Str → Option Value} {base : Heap} {k j : Nat} {x : Str} {ps N : List Str} {dvs : List V} {sp : Sp} {st : Stmt}
theorem CalD.cal (C : CalD P w K mg base k x ps dvs sp) : Cal P w K mg base k x ps sp := by
  obtain ⟨f, fd, F, hm, hk, hb, _⟩ := C.ex
  exact ⟨f, fd, F, hm, hk, hb⟩
theorem CalD.mono (C : CalD P w K mg base j x ps dvs sp) (h : j ≤ k) : CalD P w K mg base k x ps dvs sp := by
  obtain ⟨f, fd, F, r⟩ := C.ex
  exact ⟨f, fd, F.mono h, r⟩
theorem DefAtD.cal (D : DefAtD K mg x st ps dvs) (S : FnScope N ps (defScope st)) (len : ∀ vs H Q E, sp vs H Q E → vs.length = ps.length) (t : XK → TS)
    (der : ∀ (f : Addr) (cdv : Value) (A : Around) (outer : List Env) (s : Shared) (H : Hp) (E : XK), Room k (A.deeper (envOfC x (defScope st) s.heap.objs.size f cdv)) → PSs (cxOf (L2.CX P w) P w K mg base N x (defScope st) f cdv A outer s H E) (defBody st) (t E))
    (pure : ∀ vs H Q E, sp vs H Q E → t E { nx := fun _ H' => Q .non H', rt := Q } (start N vs) H) : CalD P w K mg base (k + 1) x ps dvs sp := by
  obtain ⟨f, fd, F, hm, hb, hd⟩ := D.ex
  exact ⟨f, fd, F.ok S len fun cdv A outer s H vs Q E hr h => ⟨t E, der f cdv A outer s H E hr, pure vs H Q E h⟩, hm, F.kp, hb, hd⟩
theorem DefAtD.none (D : DefAtD K mg x st ps dvs) (no : ∀ vs H Q E, ¬ sp vs H Q E) : CalD P w K mg base k x ps dvs sp := by
  obtain ⟨f, fd, F, hm, hb, hd⟩ := D.ex
  exact ⟨f, fd, ⟨fun vs H Q E h => absurd h (no vs H Q E), fun A outer s H args us vs Q E _ _ _ _ h => absurd h (no vs H Q E)⟩, hm, F.kp, hb, hd⟩
end
section
variable {X : Cx} {k j : Nat} {ps : List Str} {sp : Sp} {E : XK} {x : Str} {p pos : Pos} {e : Expr} {es : List Expr} {t : TA} {dvs : List V}
theorem pe_callD (C : CalD X.prog X.w X.K X.mg X.base k x ps dvs sp) (hr : Room j X.A) (hj : k ≤ j) (hg : Gl X x) (hx : Passes (L2.CX X.prog X.w) X E) (ha : PA X (e :: es) t)
    (hdb : (x == ("__debug__" : Str)) = false := by decide) (he : starEach (e :: es) X.env = (false, eval e X.env) :: starEach es X.env := by rfl) (hpl : (backTo pos (starEach es X.env)).any (·.1) = false := by rfl) :
    PE X (.Call (.Name x p) (e :: es) [] pos) (tCall sp dvs E t) := by
  obtain ⟨f, fd, F, hm, hk, _, ds, hd, hb⟩ := C.ex
  exact pe_call F (hr.mono hj) hg hm hk hb hd hx ha hdb he hpl
end
theorem DefAtD.mk0 {K : PySem.W.Frag} {h : Heap} {mg : Str → Option Value} {x : Str} {st : Stmt} {ps : List Str} {f T : Addr} {od an : Option Addr} {osl : Array (Option Value)} {oc kV doc pm cdv ct : Value} {oT : Obj} {tk : Tok} {nT : Nat}
    (X : K.In h) (G : h.Ns mainGlobals mg) (a : PySem.W.nsIn K mainGlobals x = some (some (.ref f))) (l : K.lookup f = some ⟨oc, od, .func (PySem.W.fnOf x x (defArgs st) (defBody st) (defScope st) (.ref T) kV doc pm an cdv ct), osl⟩)
    (lT : K.lookup T = some oT) (dT : oT.data = .seq #[.int 0 tk] nT) (c : PySem.W.codeIn K cdv x = true) (k : PySem.W.keepIn K (.ref f) = true) (n : Nat) (hn : n + 1 = ps.length)
    (b0 : ∀ (T : Addr) (kV doc pm : Value) (an : Option Addr) (cdv ct : Value) (us its : List Value), us.length = n + 1 → its.length = 1 →
      ∃ k, bindArgs (PySem.W.fnOf x x (defArgs st) (defBody st) (defScope st) (.ref T) kV doc pm an cdv ct) ⟨us, []⟩ = seqItems? (.ref T) >>= k ∧ k (some its.toArray) = pure (ps.zip (us ++ its.drop 1)))
    (b1 : ∀ (T : Addr) (kV doc pm : Value) (an : Option Addr) (cdv ct : Value) (us its : List Value), us.length = n → its.length = 1 →
      ∃ k, bindArgs (PySem.W.fnOf x x (defArgs st) (defBody st) (defScope st) (.ref T) kV doc pm an cdv ct) ⟨us, []⟩ = seqItems? (.ref T) >>= k ∧ k (some its.toArray) = pure (ps.zip (us ++ its.drop 0))) : DefAtD K mg x st ps [.int 0] := by
  have F : FunD K x x (defArgs st) (defBody st) (defScope st) [.int 0] [] f (PySem.W.fnOf x x (defArgs st) (defBody st) (defScope st) (.ref T) kV doc pm an cdv ct) :=
    ⟨⟨oc, od, _, kV, doc, pm, an, cdv, ct, osl, rfl, l, c, .inr ⟨by simp, T, oT, [.int 0 tk], nT, rfl, lT, dT, .cons ⟨tk, rfl⟩ .nil⟩, .inl rfl⟩, k⟩
  refine ⟨f, _, F, PySem.W.mg_of X G a, ?_, ?_⟩
  · obtain ⟨ds, hd, hb⟩ := F.binds1 (ps := ps) (n + 1) 1 (by simp) (by show n + 1 + (1 - 1) = _; omega) b0
    cases hd
    exact hb
  · exact F.binds1 (ps := ps) n 0 (by simp) (by show n + (1 - 0) = _; omega) b1
theorem pass_lam {P : Program} {w : World} {K : PySem.W.Frag} {mg : Str → Option Value} {base : Heap} {N : List Str} {F : NF} {f : Addr} {A : Around} {outer : List Env} {s : Shared} {H : Hp} {E : XK} :
    Passes (L2.CX P w) (ncx (L2.CX P w) P w K mg base N F f A outer s H E) E :=
  fun pins σ H s e s' I c => passes_call (takes_of rfl rfl rfl rfl) (fun _ _ _ _ z => z) pins σ H s e s' I c
end RB
namespace RB
open PySem PySem.Spec PyProof.Rows L2
def t_check_stretch (K : PySem.W.Frag) (C_OutOfRow : Addr) (E : XK) : TS :=
  (tIfS (tNot (tTest (tChain3 nLe nLe nLe (tC (.int 0)) (tVar 1) (tVar 2) (tFld K (tVar 0) "many")))) (tRaise E C_OutOfRow) tNext)
def t_Tree_init (K : PySem.W.Frag) (E : XK) : TS :=
  (tSeq (sFld K (tVar 0) (tVar 1) "many")
    (tSeq (sFld K (tVar 0) (tVar 2) "total")
    (tSeq (sFld K (tVar 0) (tVar 3) "least")
    (tSeq (sFld K (tVar 0) (tVar 4) "more")
    (tSeq (sFld K (tVar 0) (tVar 5) "left")
    (sFld K (tVar 0) (tVar 6) "right"))))))
def t_even_tree (C_Tree : Addr) (s_Tree : Sp) (E : XK) : TS :=
  (tRet (tMake C_Tree s_Tree [] E (tCons (tVar 0) (tCons (tOp nMul (tVar 0) (tVar 1)) (tCons (tVar 1) (tCons (tC (.int 0)) (tCons (tC .non) (tCons (tC .non) tNil))))))))
def t_numbers_in (K : PySem.W.Frag) (s_numbers_in : Sp) (E : XK) : TS :=
  (tSeq (tAsg (tCB nMax (tCons (tVar 1) (tCons (tC (.int 0)) tNil))) (gName 1))
    (tSeq (tAsg (tCB nMin (tCons (tVar 2) (tCons (tFld K (tVar 0) "many") tNil))) (gName 2))
    (tSeq (tIfS (tTest (tOp nGe (tVar 1) (tVar 2))) (tRet (tLst tNil)) tNext)
    (tSeq (tIfS (tTest (tOp nIs (tFld K (tVar 0) "left") (tC .non))) (tRet (tOp rRep (tLst (tCons (tOp nAdd (tFld K (tVar 0) "least") (tVar 3)) tNil)) (tOp nSub (tVar 2) (tVar 1)))) tNext)
    (tSeq (tAsg (tFld K (tFld K (tVar 0) "left") "many") (gName 4))
    (tSeq (tAsg (tCall s_numbers_in [] E (tCons (tFld K (tVar 0) "left") (tCons (tVar 1) (tCons (tVar 2) (tCons (tOp nAdd (tVar 3) (tFld K (tVar 0) "more")) tNil))))) (gName 5))
    (tSeq (tAsg (tCall s_numbers_in [] E (tCons (tFld K (tVar 0) "right") (tCons (tOp nSub (tVar 1) (tVar 4)) (tCons (tOp nSub (tVar 2) (tVar 4)) (tCons (tOp nAdd (tVar 3) (tFld K (tVar 0) "more")) tNil))))) (gName 6))
    (tRet (tOp rCat (tVar 5) (tVar 6))))))))))
def t_even (C_NoRow : Addr) (s_even_tree : Sp) (E : XK) : TS :=
  (tSeq (tIfS (tOr (tTest (tOp nLt (tVar 0) (tC (.int 0)))) (tTest (tOp nGt (tVar 0) (tC (.int 1000000000000))))) (tRaise E C_NoRow) tNext)
    (tRet (tCall s_even_tree [] E (tCons (tVar 0) (tCons (tVar 1) tNil)))))
def t_listed (C_TooMany : Addr) (s_check_stretch : Sp) (s_numbers_in : Sp) (E : XK) : TS :=
  (tSeq (tDrop (tCall s_check_stretch [] E (tCons (tVar 0) (tCons (tVar 1) (tCons (tVar 2) tNil)))))
    (tSeq (tIfS (tTest (tOp nGt (tOp nSub (tVar 2) (tVar 1)) (tC (.int 1000)))) (tRaise E C_TooMany) tNext)
    (tRet (tCall s_numbers_in [.int 0] E (tCons (tVar 0) (tCons (tVar 1) (tCons (tVar 2) tNil)))))))
def t_l_whole (K : PySem.W.Frag) (E : XK) : TS :=
  (tRet (tAndV (tCB (rIsi K) (tCons (tVar 0) (tCons (tC (.ty "int")) tNil))) (tNotV (tCB (rIsi K) (tCons (tVar 0) (tCons (tC (.ty "bool")) tNil))))))
def t_l_cell_at (K : PySem.W.Frag) (E : XK) : TS :=
  (tSeq (tIfS (tTest (tOp nLt (tVar 1) (tCB (nLen K) (tCons (tVar 0) tNil)))) (tRet (tOp (rIxL K) (tVar 0) (tVar 1))) tNext)
    (tRet (tC (.int 0))))
def t_l_number_by  (E : XK) : TS :=
  (tSeq (tIfS (tTest (tOp rEq (tOp nMod (tVar 0) (tC (.int 16))) (tC (.int 5)))) (tRet (tOp nMulW (tOp nMulW (tOp nMul (tOp nSub (tOp nMod (tOp nDiv (tVar 0) (tC (.int 16))) (tC (.int 5))) (tC (.int 2))) (tOp nPow (tC (.int 10)) (tC (.int 64)))) (tOp nPow (tC (.int 10)) (tC (.int 64)))) (tOp nPow (tC (.int 10)) (tC (.int 64))))) tNext)
    (tSeq (tIfS (tTest (tOp rEq (tOp nMod (tVar 0) (tC (.int 4))) (tC (.int 1)))) (tRet (tOp nSub (tOp nMod (tOp nDiv (tVar 0) (tC (.int 4))) (tOp nAdd (tOp nMul (tC (.int 2)) (tOp nPow (tC (.int 10)) (tC (.int 60)))) (tC (.int 1)))) (tOp nPow (tC (.int 10)) (tC (.int 60))))) tNext)
    (tSeq (tIfS (tTest (tOp rEq (tOp nMod (tVar 0) (tC (.int 4))) (tC (.int 2)))) (tRet (tOp nSub (tOp nMod (tOp nDiv (tVar 0) (tC (.int 4))) (tC (.int 3))) (tC (.int 1)))) tNext)
    (tRet (tOp nSub (tOp nMod (tOp nDiv (tVar 0) (tC (.int 4))) (tC (.int 41))) (tC (.int 20)))))))
def t_joined (K : PySem.W.Frag) (C_Tree : Addr) (s_Tree : Sp) (E : XK) : TS :=
  (tSeq (tAsg (tOp nAdd (tFld K (tVar 0) "many") (tFld K (tVar 1) "many")) (gName 3))
    (tSeq (tAsg (tOp nAdd (tOp nAdd (tFld K (tVar 0) "total") (tFld K (tVar 1) "total")) (tOp nMul (tVar 3) (tVar 2))) (gName 4))
    (tRet (tMake C_Tree s_Tree [] E (tCons (tVar 3) (tCons (tVar 4) (tCons (tOp nAdd (tCB nMin (tCons (tFld K (tVar 0) "least") (tCons (tFld K (tVar 1) "least") tNil))) (tVar 2)) (tCons (tVar 2) (tCons (tVar 0) (tCons (tVar 1) tNil))))))))))
def t_total_in (K : PySem.W.Frag) (s_total_in : Sp) (E : XK) : TS :=
  (tSeq (tAsg (tCB nMax (tCons (tVar 1) (tCons (tC (.int 0)) tNil))) (gName 1))
    (tSeq (tAsg (tCB nMin (tCons (tVar 2) (tCons (tFld K (tVar 0) "many") tNil))) (gName 2))
    (tSeq (tIfS (tTest (tOp nGe (tVar 1) (tVar 2))) (tRet (tC (.int 0))) tNext)
    (tSeq (tIfS (tTest (tOp rEq (tOp nSub (tVar 2) (tVar 1)) (tFld K (tVar 0) "many"))) (tRet (tFld K (tVar 0) "total")) tNext)
    (tSeq (tIfS (tTest (tOp nIs (tFld K (tVar 0) "left") (tC .non))) (tRet (tOp nMul (tOp nSub (tVar 2) (tVar 1)) (tFld K (tVar 0) "least"))) tNext)
    (tSeq (tAsg (tFld K (tFld K (tVar 0) "left") "many") (gName 3))
    (tSeq (tAsg (tCall s_total_in [] E (tCons (tFld K (tVar 0) "left") (tCons (tVar 1) (tCons (tVar 2) tNil)))) (gName 4))
    (tSeq (tAsg (tCall s_total_in [] E (tCons (tFld K (tVar 0) "right") (tCons (tOp nSub (tVar 1) (tVar 3)) (tCons (tOp nSub (tVar 2) (tVar 3)) tNil)))) (gName 5))
    (tRet (tOp nAdd (tOp nAdd (tVar 4) (tVar 5)) (tOp nMul (tOp nSub (tVar 2) (tVar 1)) (tFld K (tVar 0) "more"))))))))))))
def t_total (s_check_stretch : Sp) (s_total_in : Sp) (E : XK) : TS :=
  (tSeq (tDrop (tCall s_check_stretch [] E (tCons (tVar 0) (tCons (tVar 1) (tCons (tVar 2) tNil)))))
    (tRet (tCall s_total_in [] E (tCons (tVar 0) (tCons (tVar 1) (tCons (tVar 2) tNil))))))
def t_least_in (K : PySem.W.Frag) (s_least_in : Sp) (E : XK) : TS :=
  (tSeq (tAsg (tCB nMax (tCons (tVar 1) (tCons (tC (.int 0)) tNil))) (gName 1))
    (tSeq (tAsg (tCB nMin (tCons (tVar 2) (tCons (tFld K (tVar 0) "many") tNil))) (gName 2))
    (tSeq (tIfS (tTest (tOp nGe (tVar 1) (tVar 2))) (tRet (tC .non)) tNext)
    (tSeq (tIfS (tOr (tTest (tOp nIs (tFld K (tVar 0) "left") (tC .non))) (tTest (tOp rEq (tOp nSub (tVar 2) (tVar 1)) (tFld K (tVar 0) "many")))) (tRet (tFld K (tVar 0) "least")) tNext)
    (tSeq (tAsg (tFld K (tFld K (tVar 0) "left") "many") (gName 3))
    (tSeq (tAsg (tCall s_least_in [] E (tCons (tFld K (tVar 0) "left") (tCons (tVar 1) (tCons (tVar 2) tNil)))) (gName 4))
    (tSeq (tAsg (tCall s_least_in [] E (tCons (tFld K (tVar 0) "right") (tCons (tOp nSub (tVar 1) (tVar 3)) (tCons (tOp nSub (tVar 2) (tVar 3)) tNil)))) (gName 5))
    (tRet (tOp nAdd (tCB (rMin K) (tCons (tLc (iTup K (tTup (tCons (tVar 4) (tCons (tVar 5) tNil)))) (gName 6) (tTest (tOp nIsNot (tVar 6) (tC .non))) (tVar 6) [6]) tNil)) (tFld K (tVar 0) "more"))))))))))
def t_first_in (K : PySem.W.Frag) (s_first_in : Sp) (E : XK) : TS :=
  (tSeq (tIfS (tOr (tTest (tOp nGe (tVar 1) (tFld K (tVar 0) "many"))) (tTest (tOp nGt (tFld K (tVar 0) "least") (tVar 2)))) (tRet (tC .non)) tNext)
    (tSeq (tIfS (tTest (tOp nIs (tFld K (tVar 0) "left") (tC .non))) (tRet (tCB nMax (tCons (tVar 1) (tCons (tC (.int 0)) tNil)))) tNext)
    (tSeq (tAsg (tCall s_first_in [] E (tCons (tFld K (tVar 0) "left") (tCons (tVar 1) (tCons (tOp nSub (tVar 2) (tFld K (tVar 0) "more")) tNil)))) (gName 3))
    (tSeq (tIfS (tTest (tOp nIsNot (tVar 3) (tC .non))) (tRet (tVar 3)) tNext)
    (tSeq (tAsg (tFld K (tFld K (tVar 0) "left") "many") (gName 4))
    (tSeq (tAsg (tCall s_first_in [] E (tCons (tFld K (tVar 0) "right") (tCons (tOp nSub (tVar 1) (tVar 4)) (tCons (tOp nSub (tVar 2) (tFld K (tVar 0) "more")) tNil)))) (gName 3))
    (tRet (tIf (tTest (tOp nIs (tVar 3) (tC .non))) (tC .non) (tOp nAdd (tVar 4) (tVar 3))))))))))
def t_least (C_Nothing : Addr) (s_check_stretch : Sp) (s_least_in : Sp) (E : XK) : TS :=
  (tSeq (tDrop (tCall s_check_stretch [] E (tCons (tVar 0) (tCons (tVar 1) (tCons (tVar 2) tNil)))))
    (tSeq (tIfS (tTest (tOp rEq (tVar 1) (tVar 2))) (tRaise E C_Nothing) tNext)
    (tRet (tCall s_least_in [] E (tCons (tVar 0) (tCons (tVar 1) (tCons (tVar 2) tNil)))))))
def t_place (s_least : Sp) (s_first_in : Sp) (E : XK) : TS :=
  (tRet (tCall s_first_in [] E (tCons (tVar 0) (tCons (tVar 1) (tCons (tCall s_least [] E (tCons (tVar 0) (tCons (tVar 1) (tCons (tVar 2) tNil)))) tNil)))))
def t_first (K : PySem.W.Frag) (s_check_stretch : Sp) (s_first_in : Sp) (E : XK) : TS :=
  (tSeq (tDrop (tCall s_check_stretch [] E (tCons (tVar 0) (tCons (tVar 1) (tCons (tFld K (tVar 0) "many") tNil)))))
    (tRet (tCall s_first_in [] E (tCons (tVar 0) (tCons (tVar 1) (tCons (tVar 2) tNil))))))
def t_raised (K : PySem.W.Frag) (s_even_tree : Sp) (s_joined : Sp) (E : XK) : TS :=
  (tSeq (tIfS (tTest (tOp nIs (tFld K (tVar 0) "left") (tC .non))) (tRet (tCall s_even_tree [] E (tCons (tFld K (tVar 0) "many") (tCons (tOp nAdd (tFld K (tVar 0) "least") (tVar 1)) tNil)))) tNext)
    (tRet (tCall s_joined [] E (tCons (tFld K (tVar 0) "left") (tCons (tFld K (tVar 0) "right") (tCons (tOp nAdd (tFld K (tVar 0) "more") (tVar 1)) tNil))))))
def t_halves (K : PySem.W.Frag) (s_even_tree : Sp) (E : XK) : TS :=
  (tSeq (tIfS (tTest (tOp nIsNot (tFld K (tVar 0) "left") (tC .non))) (tRet (tTup (tCons (tFld K (tVar 0) "left") (tCons (tFld K (tVar 0) "right") tNil)))) tNext)
    (tSeq (tAsg (tOp nDiv (tFld K (tVar 0) "many") (tC (.int 2))) (gName 1))
    (tRet (tTup (tCons (tCall s_even_tree [] E (tCons (tVar 1) (tCons (tFld K (tVar 0) "least") tNil))) (tCons (tCall s_even_tree [] E (tCons (tOp nSub (tFld K (tVar 0) "many") (tVar 1)) (tCons (tFld K (tVar 0) "least") tNil))) tNil))))))
def t_added_in (T_ : List (Addr × Str)) (q_ : Str) (l_ : Expr) (s_changed : Addr → LF → List (Option V) → Sp) (E : XK) : TS :=
  (tRet (tLam3 T_ q_ l_ [3] s_changed E (tVar 0) (tVar 1) (tVar 2)))
def t_lam_added_in (s_raised : Sp) (E : XK) : TE :=
  (tCall s_raised [] E (tCons (tVar 0) (tCons (tVar 2) tNil)))
def t_changed (s_raised : Sp) (s_changed_in : Sp) (E : XK) : TS :=
  (tSeq (tIfS (tTest (tOp rEq (tVar 1) (tVar 2))) (tRet (tCall s_raised [] E (tCons (tVar 0) (tCons (tC (.int 0)) tNil)))) tNext)
    (tRet (tCall s_changed_in [] E (tCons (tVar 0) (tCons (tVar 1) (tCons (tVar 2) (tCons (tC (.int 0)) (tCons (tVar 3) tNil))))))))
def t_changed_in (K : PySem.W.Frag) (s_halves : Sp) (s_joined : Sp) (s_changed_in : Sp) (f_ : Addr) (F_ : LF) (s_change : Sp) (E : XK) : TS :=
  (tSeq (tAsg (tCB nMax (tCons (tVar 1) (tCons (tC (.int 0)) tNil))) (gName 1))
    (tSeq (tAsg (tCB nMin (tCons (tVar 2) (tCons (tFld K (tVar 0) "many") tNil))) (gName 2))
    (tSeq (tIfS (tTest (tOp nGe (tVar 1) (tVar 2))) (tRet (tVar 0)) tNext)
    (tSeq (tIfS (tTest (tOp rEq (tOp nSub (tVar 2) (tVar 1)) (tFld K (tVar 0) "many"))) (tRet (tCallV 4 f_ F_ s_change E (tCons (tVar 0) (tCons (tVar 3) tNil)))) tNext)
    (tSeq (tAsg (tCall s_halves [] E (tCons (tVar 0) tNil)) (gTup K 2 (gCons (gName 5) (gCons (gName 6) gNil))))
    (tSeq (tAsg (tFld K (tVar 5) "many") (gName 7))
    (tSeq (tAsg (tCall s_changed_in [] E (tCons (tVar 5) (tCons (tVar 1) (tCons (tVar 2) (tCons (tOp nAdd (tVar 3) (tFld K (tVar 0) "more")) (tCons (tVar 4) tNil)))))) (gName 8))
    (tSeq (tAsg (tCall s_changed_in [] E (tCons (tVar 6) (tCons (tOp nSub (tVar 1) (tVar 7)) (tCons (tOp nSub (tVar 2) (tVar 7)) (tCons (tOp nAdd (tVar 3) (tFld K (tVar 0) "more")) (tCons (tVar 4) tNil)))))) (gName 9))
    (tRet (tCall s_joined [] E (tCons (tVar 8) (tCons (tVar 9) (tCons (tFld K (tVar 0) "more") tNil)))))))))))))
def t_added (s_check_stretch : Sp) (s_added_in : Sp) (E : XK) : TS :=
  (tSeq (tDrop (tCall s_check_stretch [] E (tCons (tVar 0) (tCons (tVar 1) (tCons (tVar 2) tNil)))))
    (tRet (tCall s_added_in [] E (tCons (tVar 0) (tCons (tVar 1) (tCons (tVar 2) (tCons (tVar 3) tNil)))))))
def t_filled_in (T_ : List (Addr × Str)) (q_ : Str) (l_ : Expr) (s_changed : Addr → LF → List (Option V) → Sp) (E : XK) : TS :=
  (tRet (tLam3 T_ q_ l_ [3] s_changed E (tVar 0) (tVar 1) (tVar 2)))
def t_lam_filled_in (K : PySem.W.Frag) (s_even_tree : Sp) (E : XK) : TE :=
  (tCall s_even_tree [] E (tCons (tFld K (tVar 0) "many") (tCons (tOp nSub (tVar 2) (tVar 1)) tNil)))
def t_filled (s_check_stretch : Sp) (s_filled_in : Sp) (E : XK) : TS :=
  (tSeq (tDrop (tCall s_check_stretch [] E (tCons (tVar 0) (tCons (tVar 1) (tCons (tVar 2) tNil)))))
    (tRet (tCall s_filled_in [] E (tCons (tVar 0) (tCons (tVar 1) (tCons (tVar 2) (tCons (tVar 3) tNil)))))))
def t_l_end_by13 (K : PySem.W.Frag) (E : XK) : TS :=
  (tSeq (tAsg (tOp nMod (tOp nMul (tOp nDiv (tVar 0) (tC (.int 4))) (tC (.int 48271))) (tOp nAdd (tVar 2) (tC (.int 1)))) (gName 3))
    (tSeq (tIfS (tOr (tTest (tOp rEq (tOp nMod (tVar 0) (tC (.int 4))) (tC (.int 1)))) (tTest (tOp rEq (tOp nMod (tVar 0) (tC (.int 4))) (tC (.int 2))))) (tAsg (tOp nSub (tOp nAdd (tOp (rIxL K) (tVar 1) (tOp nMod (tOp nDiv (tVar 0) (tC (.int 4))) (tCB (nLen K) (tCons (tVar 1) tNil)))) (tOp nMod (tOp nDiv (tVar 0) (tC (.int 64))) (tC (.int 3)))) (tC (.int 1))) (gName 3)) tNext)
    (tRet (tCB nMin (tCons (tCB nMax (tCons (tVar 3) (tCons (tC (.int 0)) tNil))) (tCons (tVar 2) tNil))))))
def t_l_least_of (K : PySem.W.Frag) (s_l_whole : Sp) (E : XK) : TS :=
  (tSeq (tAsg (tC .non) (gName 1))
    (tSeq (tFor (iList K (tVar 0)) (gName 2)
    (tSeq (tIfS (tNot (tB (tCall s_l_whole [] E (tCons (tVar 2) tNil)))) (tRet (tC .non)) tNext)
    (tIfS (tOr (tTest (tOp nIs (tVar 1) (tC .non))) (tTest (tOp nLt (tVar 2) (tVar 1)))) (tAsg (tVar 2) (gName 1)) tNext)))
    (tRet (tVar 1))))
def t_l_changed13 (K : PySem.W.Frag) (s_total : Sp) (s_least : Sp) (s_l_whole : Sp) (s_l_least_of : Sp) (E : XK) : TS :=
  (tSeq (tAsg (tCB nMin (tCons (tCB nMax (tCons (tVar 4) (tCons (tOp (rIxT K) (tVar 3) (tC (.int 0))) tNil))) (tCons (tVar 5) tNil))) (gName 6))
    (tSeq (tAsg (tCB nMax (tCons (tVar 6) (tCons (tCB nMin (tCons (tVar 5) (tCons (tOp (rIxT K) (tVar 3) (tC (.int 1))) tNil))) tNil))) (gName 7))
    (tSeq (tAsg (tOp nSub (tVar 7) (tVar 6)) (gName 8))
    (tSeq (tAsg (tOp nAdd (tCall s_total [] E (tCons (tVar 0) (tCons (tVar 4) (tCons (tVar 6) tNil)))) (tCall s_total [] E (tCons (tVar 0) (tCons (tVar 7) (tCons (tVar 5) tNil))))) (gName 9))
    (tSeq (tAsg (tLst tNil) (gName 10))
    (tSeq (tIfS (tTest (tOp nLt (tVar 4) (tVar 6))) (tDrop (tBM K "list" rAppend (tVar 10) (tCons (tCall s_least [] E (tCons (tVar 0) (tCons (tVar 4) (tCons (tVar 6) tNil)))) tNil))) tNext)
    (tSeq (tIfS (tTest (tOp nLt (tVar 7) (tVar 5))) (tDrop (tBM K "list" rAppend (tVar 10) (tCons (tCall s_least [] E (tCons (tVar 0) (tCons (tVar 7) (tCons (tVar 5) tNil)))) tNil))) tNext)
    (tSeq (tIfS (tTest (tOp rEq (tVar 2) (tC (.str "add")))) (tSeq (tAsg (tOp nAdd (tOp nAdd (tVar 9) (tCall s_total [] E (tCons (tVar 0) (tCons (tVar 6) (tCons (tVar 7) tNil))))) (tOp nMul (tVar 8) (tOp (rIxT K) (tVar 3) (tC (.int 2))))) (gName 9))
    (tIfS (tTest (tOp nLt (tVar 6) (tVar 7))) (tDrop (tBM K "list" rAppend (tVar 10) (tCons (tOp nAdd (tCall s_least [] E (tCons (tVar 0) (tCons (tVar 6) (tCons (tVar 7) tNil)))) (tOp (rIxT K) (tVar 3) (tC (.int 2)))) tNil))) tNext)) (tSeq (tAsg (tOp nAdd (tVar 9) (tOp nMul (tVar 8) (tOp (rIxT K) (tVar 3) (tC (.int 2))))) (gName 9))
    (tIfS (tTest (tOp nLt (tVar 6) (tVar 7))) (tDrop (tBM K "list" rAppend (tVar 10) (tCons (tOp (rIxT K) (tVar 3) (tC (.int 2))) tNil))) tNext)))
    (tSeq (tAsg (tCall s_total [] E (tCons (tVar 1) (tCons (tVar 4) (tCons (tVar 5) tNil)))) (gName 11))
    (tSeq (tIfS (tOr (tNot (tB (tCall s_l_whole [] E (tCons (tVar 11) tNil)))) (tTest (tOp rNe (tVar 11) (tVar 9)))) (tRet (tC (.bl false))) tNext)
    (tRet (tOrV (tOp rEq (tVar 4) (tVar 5)) (tOp rEq (tCall s_least [] E (tCons (tVar 1) (tCons (tVar 4) (tCons (tVar 5) tNil)))) (tCall s_l_least_of [] E (tCons (tVar 10) tNil)))))))))))))))
def t_l_cut13_9 (K : PySem.W.Frag) (s_total : Sp) (s_least : Sp) (s_place : Sp) (s_l_whole : Sp) (s_l_least_of : Sp) (s_listed : Sp) (E : XK) : TS :=
  (tRet (tOrV (tOp rEq (tVar 6) (tVar 1)) (tOp nGt (tCall s_least [] E (tCons (tVar 0) (tCons (tVar 1) (tCons (tVar 6) tNil)))) (tVar 5))))
def t_l_cut13_8 (K : PySem.W.Frag) (s_total : Sp) (s_least : Sp) (s_place : Sp) (s_l_whole : Sp) (s_l_least_of : Sp) (s_listed : Sp) (E : XK) : TS :=
  (tSeq (tIfS (tOr (tTest (tOp (rNeD K) (tCall s_listed [] E (tCons (tVar 0) (tCons (tVar 6) (tCons (tOp nAdd (tVar 6) (tC (.int 1))) tNil)))) (tLst (tCons (tVar 5) tNil)))) (tTest (tOp rNe (tCall s_total [] E (tCons (tVar 0) (tCons (tVar 6) (tCons (tOp nAdd (tVar 6) (tC (.int 1))) tNil)))) (tVar 5)))) (tRet (tC (.bl false))) tNext)
    (t_l_cut13_9 K s_total s_least s_place s_l_whole s_l_least_of s_listed E))
def t_l_cut13_7 (K : PySem.W.Frag) (s_total : Sp) (s_least : Sp) (s_place : Sp) (s_l_whole : Sp) (s_l_least_of : Sp) (s_listed : Sp) (E : XK) : TS :=
  (tSeq (tIfS (tOr (tNot (tB (tCall s_l_whole [] E (tCons (tVar 5) tNil)))) (tOr (tTest (tOp rNe (tVar 5) (tCall s_l_least_of [] E (tCons (tVar 4) tNil)))) (tOr (tNot (tB (tCall s_l_whole [] E (tCons (tVar 6) tNil)))) (tOr (tTest (tOp nLt (tVar 6) (tVar 1))) (tTest (tOp nGe (tVar 6) (tVar 3))))))) (tRet (tC (.bl false))) tNext)
    (t_l_cut13_8 K s_total s_least s_place s_l_whole s_l_least_of s_listed E))
def t_l_cut13_6 (K : PySem.W.Frag) (s_total : Sp) (s_least : Sp) (s_place : Sp) (s_l_whole : Sp) (s_l_least_of : Sp) (s_listed : Sp) (E : XK) : TS :=
  (tSeq (tAsg (tCall s_place [] E (tCons (tVar 0) (tCons (tVar 1) (tCons (tVar 3) tNil)))) (gName 6))
    (t_l_cut13_7 K s_total s_least s_place s_l_whole s_l_least_of s_listed E))
def t_l_cut13_5 (K : PySem.W.Frag) (s_total : Sp) (s_least : Sp) (s_place : Sp) (s_l_whole : Sp) (s_l_least_of : Sp) (s_listed : Sp) (E : XK) : TS :=
  (tSeq (tAsg (tCall s_least [] E (tCons (tVar 0) (tCons (tVar 1) (tCons (tVar 3) tNil)))) (gName 5))
    (t_l_cut13_6 K s_total s_least s_place s_l_whole s_l_least_of s_listed E))
def t_l_cut13_4 (K : PySem.W.Frag) (s_total : Sp) (s_least : Sp) (s_place : Sp) (s_l_whole : Sp) (s_l_least_of : Sp) (s_listed : Sp) (E : XK) : TS :=
  (tSeq (tIfS (tTest (tOp nLt (tVar 2) (tVar 3))) (tDrop (tBM K "list" rAppend (tVar 4) (tCons (tCall s_least [] E (tCons (tVar 0) (tCons (tVar 2) (tCons (tVar 3) tNil)))) tNil))) tNext)
    (t_l_cut13_5 K s_total s_least s_place s_l_whole s_l_least_of s_listed E))
def t_l_cut13_3 (K : PySem.W.Frag) (s_total : Sp) (s_least : Sp) (s_place : Sp) (s_l_whole : Sp) (s_l_least_of : Sp) (s_listed : Sp) (E : XK) : TS :=
  (tSeq (tIfS (tTest (tOp nLt (tVar 1) (tVar 2))) (tDrop (tBM K "list" rAppend (tVar 4) (tCons (tCall s_least [] E (tCons (tVar 0) (tCons (tVar 1) (tCons (tVar 2) tNil)))) tNil))) tNext)
    (t_l_cut13_4 K s_total s_least s_place s_l_whole s_l_least_of s_listed E))
def t_l_cut13_2 (K : PySem.W.Frag) (s_total : Sp) (s_least : Sp) (s_place : Sp) (s_l_whole : Sp) (s_l_least_of : Sp) (s_listed : Sp) (E : XK) : TS :=
  (tSeq (tAsg (tLst tNil) (gName 4))
    (t_l_cut13_3 K s_total s_least s_place s_l_whole s_l_least_of s_listed E))
def t_l_cut13_1 (K : PySem.W.Frag) (s_total : Sp) (s_least : Sp) (s_place : Sp) (s_l_whole : Sp) (s_l_least_of : Sp) (s_listed : Sp) (E : XK) : TS :=
  (tSeq (tIfS (tTest (tOp rEq (tVar 1) (tVar 3))) (tRet (tC (.bl true))) tNext)
    (t_l_cut13_2 K s_total s_least s_place s_l_whole s_l_least_of s_listed E))
def t_l_cut13 (K : PySem.W.Frag) (s_total : Sp) (s_least : Sp) (s_place : Sp) (s_l_whole : Sp) (s_l_least_of : Sp) (s_listed : Sp) (E : XK) : TS :=
  (tSeq (tIfS (tTest (tOp rNe (tOp nAdd (tCall s_total [] E (tCons (tVar 0) (tCons (tVar 1) (tCons (tVar 2) tNil)))) (tCall s_total [] E (tCons (tVar 0) (tCons (tVar 2) (tCons (tVar 3) tNil))))) (tCall s_total [] E (tCons (tVar 0) (tCons (tVar 1) (tCons (tVar 3) tNil)))))) (tRet (tC (.bl false))) tNext)
    (t_l_cut13_1 K s_total s_least s_place s_l_whole s_l_least_of s_listed E))
def t_l_first13 (s_first : Sp) (s_least : Sp) (s_l_whole : Sp) (E : XK) : TS :=
  (tSeq (tAsg (tCall s_first [] E (tCons (tVar 0) (tCons (tVar 2) (tCons (tVar 3) tNil)))) (gName 4))
    (tSeq (tIfS (tTest (tOp nIs (tVar 4) (tC .non))) (tRet (tOrV (tOp rEq (tVar 2) (tVar 1)) (tOp nGt (tCall s_least [] E (tCons (tVar 0) (tCons (tVar 2) (tCons (tVar 1) tNil)))) (tVar 3)))) tNext)
    (tSeq (tIfS (tOr (tNot (tB (tCall s_l_whole [] E (tCons (tVar 4) tNil)))) (tOr (tTest (tOp nLt (tVar 4) (tVar 2))) (tOr (tTest (tOp nGe (tVar 4) (tVar 1))) (tTest (tOp nGt (tCall s_least [] E (tCons (tVar 0) (tCons (tVar 4) (tCons (tOp nAdd (tVar 4) (tC (.int 1))) tNil)))) (tVar 3)))))) (tRet (tC (.bl false))) tNext)
    (tRet (tOrV (tOp rEq (tVar 4) (tVar 2)) (tOp nGt (tCall s_least [] E (tCons (tVar 0) (tCons (tVar 2) (tCons (tVar 4) tNil)))) (tVar 3)))))))
def t_l_held (s_first : Sp) (s_place : Sp) (E : XK) : TS :=
  (tSeq (tIfS (tTest (tOp rEq (tVar 1) (tVar 2))) (tRet (tTup (tCons (tC .non) (tCons (tCall s_first [] E (tCons (tVar 0) (tCons (tVar 1) (tCons (tVar 3) tNil)))) tNil)))) tNext)
    (tRet (tTup (tCons (tCall s_place [] E (tCons (tVar 0) (tCons (tVar 1) (tCons (tVar 2) tNil)))) (tCons (tCall s_first [] E (tCons (tVar 0) (tCons (tVar 1) (tCons (tVar 3) tNil)))) tNil)))))
def t_law_k13_5 (K : PySem.W.Frag) (s_l_cell_at : Sp) (s_l_number_by : Sp) (s_even : Sp) (s_l_end_by13 : Sp) (s_l_held : Sp) (s_added : Sp) (s_filled : Sp) (s_l_changed13 : Sp) (s_l_cut13 : Sp) (s_least : Sp) (s_l_first13 : Sp) (E : XK) : TS :=
  (tRet (tC (.bl true)))
def t_law_k13_4b13 (K : PySem.W.Frag) (s_l_cell_at : Sp) (s_l_number_by : Sp) (s_even : Sp) (s_l_end_by13 : Sp) (s_l_held : Sp) (s_added : Sp) (s_filled : Sp) (s_l_changed13 : Sp) (s_l_cut13 : Sp) (s_least : Sp) (s_l_first13 : Sp) (E : XK) : TS :=
  (tIfS (tTest (tOp (rNeD K) (tCall s_l_held [] E (tCons (tVar 6) (tCons (tCB (rMin K) (tCons (tVar 5) tNil)) (tCons (tCB (rMax K) (tCons (tVar 5) tNil)) (tCons (tOp nSub (tOp nMod (tOp (rIxL K) (tVar 0) (tVar 4)) (tC (.int 41))) (tC (.int 20))) tNil))))) (tVar 7))) (tRet (tC (.bl false))) tNext)
def t_law_k13_4b12 (K : PySem.W.Frag) (s_l_cell_at : Sp) (s_l_number_by : Sp) (s_even : Sp) (s_l_end_by13 : Sp) (s_l_held : Sp) (s_added : Sp) (s_filled : Sp) (s_l_changed13 : Sp) (s_l_cut13 : Sp) (s_least : Sp) (s_l_first13 : Sp) (E : XK) : TS :=
  (tSeq (tIfS (tNot (tB (tCall s_l_first13 [] E (tCons (tVar 2) (tCons (tVar 1) (tCons (tOp (rIxL K) (tVar 10) (tC (.int 1))) (tCons (tVar 11) tNil))))))) (tRet (tC (.bl false))) tNext)
    (t_law_k13_4b13 K s_l_cell_at s_l_number_by s_even s_l_end_by13 s_l_held s_added s_filled s_l_changed13 s_l_cut13 s_least s_l_first13 E))
def t_law_k13_4b11 (K : PySem.W.Frag) (s_l_cell_at : Sp) (s_l_number_by : Sp) (s_even : Sp) (s_l_end_by13 : Sp) (s_l_held : Sp) (s_added : Sp) (s_filled : Sp) (s_l_changed13 : Sp) (s_l_cut13 : Sp) (s_least : Sp) (s_l_first13 : Sp) (E : XK) : TS :=
  (tSeq (tIfS (tAnd (tTest (tOp nGt (tVar 1) (tC (.int 0)))) (tTest (tOp rEq (tOp nMod (tOp (rIxL K) (tVar 0) (tOp nAdd (tVar 4) (tC (.int 1)))) (tC (.int 2))) (tC (.int 1))))) (tAsg (tOp nAdd (tCall s_least [] E (tCons (tVar 2) (tCons (tC (.int 0)) (tCons (tVar 1) tNil)))) (tOp nMod (tOp nDiv (tOp (rIxL K) (tVar 0) (tOp nAdd (tVar 4) (tC (.int 1)))) (tC (.int 2))) (tC (.int 5)))) (gName 11)) tNext)
    (t_law_k13_4b12 K s_l_cell_at s_l_number_by s_even s_l_end_by13 s_l_held s_added s_filled s_l_changed13 s_l_cut13 s_least s_l_first13 E))
def t_law_k13_4b10 (K : PySem.W.Frag) (s_l_cell_at : Sp) (s_l_number_by : Sp) (s_even : Sp) (s_l_end_by13 : Sp) (s_l_held : Sp) (s_added : Sp) (s_filled : Sp) (s_l_changed13 : Sp) (s_l_cut13 : Sp) (s_least : Sp) (s_l_first13 : Sp) (E : XK) : TS :=
  (tSeq (tAsg (tOp nSub (tOp nAdd (tOp (rIxT K) (tVar 8) (tC (.int 2))) (tOp nMod (tOp (rIxL K) (tVar 0) (tOp nAdd (tVar 4) (tC (.int 1)))) (tC (.int 5)))) (tC (.int 2))) (gName 11))
    (t_law_k13_4b11 K s_l_cell_at s_l_number_by s_even s_l_end_by13 s_l_held s_added s_filled s_l_changed13 s_l_cut13 s_least s_l_first13 E))
def t_law_k13_4b9 (K : PySem.W.Frag) (s_l_cell_at : Sp) (s_l_number_by : Sp) (s_even : Sp) (s_l_end_by13 : Sp) (s_l_held : Sp) (s_added : Sp) (s_filled : Sp) (s_l_changed13 : Sp) (s_l_cut13 : Sp) (s_least : Sp) (s_l_first13 : Sp) (E : XK) : TS :=
  (tSeq (tIfS (tNot (tB (tCall s_l_cut13 [] E (tCons (tVar 2) (tCons (tOp (rIxL K) (tVar 10) (tC (.int 0))) (tCons (tOp (rIxL K) (tVar 10) (tC (.int 1))) (tCons (tOp (rIxL K) (tVar 10) (tC (.int 2))) tNil))))))) (tRet (tC (.bl false))) tNext)
    (t_law_k13_4b10 K s_l_cell_at s_l_number_by s_even s_l_end_by13 s_l_held s_added s_filled s_l_changed13 s_l_cut13 s_least s_l_first13 E))
def t_law_k13_4b8 (K : PySem.W.Frag) (s_l_cell_at : Sp) (s_l_number_by : Sp) (s_even : Sp) (s_l_end_by13 : Sp) (s_l_held : Sp) (s_added : Sp) (s_filled : Sp) (s_l_changed13 : Sp) (s_l_cut13 : Sp) (s_least : Sp) (s_l_first13 : Sp) (E : XK) : TS :=
  (tSeq (tIfS (tNot (tB (tCall s_l_changed13 [] E (tCons (tVar 6) (tCons (tVar 2) (tCons (tVar 9) (tCons (tVar 8) (tCons (tOp (rIxL K) (tVar 10) (tC (.int 0))) (tCons (tOp (rIxL K) (tVar 10) (tC (.int 2))) tNil))))))))) (tRet (tC (.bl false))) tNext)
    (t_law_k13_4b9 K s_l_cell_at s_l_number_by s_even s_l_end_by13 s_l_held s_added s_filled s_l_changed13 s_l_cut13 s_least s_l_first13 E))
def t_law_k13_4b7 (K : PySem.W.Frag) (s_l_cell_at : Sp) (s_l_number_by : Sp) (s_even : Sp) (s_l_end_by13 : Sp) (s_l_held : Sp) (s_added : Sp) (s_filled : Sp) (s_l_changed13 : Sp) (s_l_cut13 : Sp) (s_least : Sp) (s_l_first13 : Sp) (E : XK) : TS :=
  (tSeq (tAsg (tCB (rSorted K) (tCons (tLc (iRng1 (tCons (tC (.int 3)) tNil)) (gName 12) tYes (tCall s_l_end_by13 [] E0 (tCons (tOp nAdd (tOp nDiv (tOp (rIxL K) (tVar 0) (tOp nAdd (tVar 4) (tVar 12))) (tC (.int 7))) (tVar 4)) (tCons (tVar 3) (tCons (tVar 1) tNil)))) [12]) tNil)) (gName 10))
    (t_law_k13_4b8 K s_l_cell_at s_l_number_by s_even s_l_end_by13 s_l_held s_added s_filled s_l_changed13 s_l_cut13 s_least s_l_first13 E))
def t_law_k13_4b6 (K : PySem.W.Frag) (s_l_cell_at : Sp) (s_l_number_by : Sp) (s_even : Sp) (s_l_end_by13 : Sp) (s_l_held : Sp) (s_added : Sp) (s_filled : Sp) (s_l_changed13 : Sp) (s_l_cut13 : Sp) (s_least : Sp) (s_l_first13 : Sp) (E : XK) : TS :=
  (tSeq (tAsg (tOp rCat (tVar 3) (tLst (tCons (tOp (rIxT K) (tVar 8) (tC (.int 0))) (tCons (tOp (rIxT K) (tVar 8) (tC (.int 1))) tNil)))) (gName 3))
    (t_law_k13_4b7 K s_l_cell_at s_l_number_by s_even s_l_end_by13 s_l_held s_added s_filled s_l_changed13 s_l_cut13 s_least s_l_first13 E))
def t_law_k13_4b5 (K : PySem.W.Frag) (s_l_cell_at : Sp) (s_l_number_by : Sp) (s_even : Sp) (s_l_end_by13 : Sp) (s_l_held : Sp) (s_added : Sp) (s_filled : Sp) (s_l_changed13 : Sp) (s_l_cut13 : Sp) (s_least : Sp) (s_l_first13 : Sp) (E : XK) : TS :=
  (tSeq (tIfS (tTest (tOp rEq (tVar 9) (tC (.str "add")))) (tAsg (tCall s_added [] E (tCons (tVar 6) (tCons (tOp (rIxT K) (tVar 8) (tC (.int 0))) (tCons (tOp (rIxT K) (tVar 8) (tC (.int 1))) (tCons (tOp (rIxT K) (tVar 8) (tC (.int 2))) tNil))))) (gName 2)) (tAsg (tCall s_filled [] E (tCons (tVar 6) (tCons (tOp (rIxT K) (tVar 8) (tC (.int 0))) (tCons (tOp (rIxT K) (tVar 8) (tC (.int 1))) (tCons (tOp (rIxT K) (tVar 8) (tC (.int 2))) tNil))))) (gName 2)))
    (t_law_k13_4b6 K s_l_cell_at s_l_number_by s_even s_l_end_by13 s_l_held s_added s_filled s_l_changed13 s_l_cut13 s_least s_l_first13 E))
def t_law_k13_4b4 (K : PySem.W.Frag) (s_l_cell_at : Sp) (s_l_number_by : Sp) (s_even : Sp) (s_l_end_by13 : Sp) (s_l_held : Sp) (s_added : Sp) (s_filled : Sp) (s_l_changed13 : Sp) (s_l_cut13 : Sp) (s_least : Sp) (s_l_first13 : Sp) (E : XK) : TS :=
  (tSeq (tAsg (tOp (rIxL K) (tLst (tCons (tC (.str "add")) (tCons (tC (.str "fill")) (tCons (tC (.str "add")) tNil)))) (tOp nMod (tOp (rIxL K) (tVar 0) (tVar 4)) (tC (.int 3)))) (gName 9))
    (t_law_k13_4b5 K s_l_cell_at s_l_number_by s_even s_l_end_by13 s_l_held s_added s_filled s_l_changed13 s_l_cut13 s_least s_l_first13 E))
def t_law_k13_4b3 (K : PySem.W.Frag) (s_l_cell_at : Sp) (s_l_number_by : Sp) (s_even : Sp) (s_l_end_by13 : Sp) (s_l_held : Sp) (s_added : Sp) (s_filled : Sp) (s_l_changed13 : Sp) (s_l_cut13 : Sp) (s_least : Sp) (s_l_first13 : Sp) (E : XK) : TS :=
  (tSeq (tAsg (tTup (tCons (tCB nMin (tCons (tOp (rIxL K) (tVar 5) (tC (.int 0))) (tCons (tOp (rIxL K) (tVar 5) (tC (.int 1))) tNil))) (tCons (tCB nMax (tCons (tOp (rIxL K) (tVar 5) (tC (.int 0))) (tCons (tOp (rIxL K) (tVar 5) (tC (.int 1))) tNil))) (tCons (tCall s_l_number_by [] E (tCons (tOp nDiv (tOp (rIxL K) (tVar 0) (tOp nAdd (tVar 4) (tC (.int 2)))) (tC (.int 3))) tNil)) tNil)))) (gName 8))
    (t_law_k13_4b4 K s_l_cell_at s_l_number_by s_even s_l_end_by13 s_l_held s_added s_filled s_l_changed13 s_l_cut13 s_least s_l_first13 E))
def t_law_k13_4b2 (K : PySem.W.Frag) (s_l_cell_at : Sp) (s_l_number_by : Sp) (s_even : Sp) (s_l_end_by13 : Sp) (s_l_held : Sp) (s_added : Sp) (s_filled : Sp) (s_l_changed13 : Sp) (s_l_cut13 : Sp) (s_least : Sp) (s_l_first13 : Sp) (E : XK) : TS :=
  (tSeq (tAsg (tCall s_l_held [] E (tCons (tVar 6) (tCons (tCB (rMin K) (tCons (tVar 5) tNil)) (tCons (tCB (rMax K) (tCons (tVar 5) tNil)) (tCons (tOp nSub (tOp nMod (tOp (rIxL K) (tVar 0) (tVar 4)) (tC (.int 41))) (tC (.int 20))) tNil))))) (gName 7))
    (t_law_k13_4b3 K s_l_cell_at s_l_number_by s_even s_l_end_by13 s_l_held s_added s_filled s_l_changed13 s_l_cut13 s_least s_l_first13 E))
def t_law_k13_4b1 (K : PySem.W.Frag) (s_l_cell_at : Sp) (s_l_number_by : Sp) (s_even : Sp) (s_l_end_by13 : Sp) (s_l_held : Sp) (s_added : Sp) (s_filled : Sp) (s_l_changed13 : Sp) (s_l_cut13 : Sp) (s_least : Sp) (s_l_first13 : Sp) (E : XK) : TS :=
  (tSeq (tAsg (tVar 2) (gName 6))
    (t_law_k13_4b2 K s_l_cell_at s_l_number_by s_even s_l_end_by13 s_l_held s_added s_filled s_l_changed13 s_l_cut13 s_least s_l_first13 E))
def t_law_k13_4b0 (K : PySem.W.Frag) (s_l_cell_at : Sp) (s_l_number_by : Sp) (s_even : Sp) (s_l_end_by13 : Sp) (s_l_held : Sp) (s_added : Sp) (s_filled : Sp) (s_l_changed13 : Sp) (s_l_cut13 : Sp) (s_least : Sp) (s_l_first13 : Sp) (E : XK) : TS :=
  (tSeq (tAsg (tLc (iRng1 (tCons (tC (.int 3)) tNil)) (gName 12) tYes (tCall s_l_end_by13 [] E0 (tCons (tOp nDiv (tOp (rIxL K) (tVar 0) (tOp nAdd (tVar 4) (tVar 12))) (tC (.int 5))) (tCons (tVar 3) (tCons (tVar 1) tNil)))) [12]) (gName 5))
    (t_law_k13_4b1 K s_l_cell_at s_l_number_by s_even s_l_end_by13 s_l_held s_added s_filled s_l_changed13 s_l_cut13 s_least s_l_first13 E))
def t_law_k13_4 (K : PySem.W.Frag) (s_l_cell_at : Sp) (s_l_number_by : Sp) (s_even : Sp) (s_l_end_by13 : Sp) (s_l_held : Sp) (s_added : Sp) (s_filled : Sp) (s_l_changed13 : Sp) (s_l_cut13 : Sp) (s_least : Sp) (s_l_first13 : Sp) (E : XK) : TS :=
  (tSeq (tFor (iRng3 (tCons (tC (.int 2)) (tCons (tOp nSub (tCB nMin (tCons (tCB (nLen K) (tCons (tVar 0) tNil)) (tCons (tC (.int 63)) tNil))) (tC (.int 2))) (tCons (tC (.int 3)) tNil)))) (gName 4)
    (t_law_k13_4b0 K s_l_cell_at s_l_number_by s_even s_l_end_by13 s_l_held s_added s_filled s_l_changed13 s_l_cut13 s_least s_l_first13 E))
    (t_law_k13_5 K s_l_cell_at s_l_number_by s_even s_l_end_by13 s_l_held s_added s_filled s_l_changed13 s_l_cut13 s_least s_l_first13 E))
def t_law_k13_3 (K : PySem.W.Frag) (s_l_cell_at : Sp) (s_l_number_by : Sp) (s_even : Sp) (s_l_end_by13 : Sp) (s_l_held : Sp) (s_added : Sp) (s_filled : Sp) (s_l_changed13 : Sp) (s_l_cut13 : Sp) (s_least : Sp) (s_l_first13 : Sp) (E : XK) : TS :=
  (tSeq (tAsg (tLst (tCons (tC (.int 0)) (tCons (tVar 1) tNil))) (gName 3))
    (t_law_k13_4 K s_l_cell_at s_l_number_by s_even s_l_end_by13 s_l_held s_added s_filled s_l_changed13 s_l_cut13 s_least s_l_first13 E))
def t_law_k13_2 (K : PySem.W.Frag) (s_l_cell_at : Sp) (s_l_number_by : Sp) (s_even : Sp) (s_l_end_by13 : Sp) (s_l_held : Sp) (s_added : Sp) (s_filled : Sp) (s_l_changed13 : Sp) (s_l_cut13 : Sp) (s_least : Sp) (s_l_first13 : Sp) (E : XK) : TS :=
  (tSeq (tAsg (tCall s_even [] E (tCons (tVar 1) (tCons (tCall s_l_number_by [] E (tCons (tCall s_l_cell_at [] E (tCons (tVar 0) (tCons (tC (.int 1)) tNil))) tNil)) tNil))) (gName 2))
    (t_law_k13_3 K s_l_cell_at s_l_number_by s_even s_l_end_by13 s_l_held s_added s_filled s_l_changed13 s_l_cut13 s_least s_l_first13 E))
def t_law_k13_1 (K : PySem.W.Frag) (s_l_cell_at : Sp) (s_l_number_by : Sp) (s_even : Sp) (s_l_end_by13 : Sp) (s_l_held : Sp) (s_added : Sp) (s_filled : Sp) (s_l_changed13 : Sp) (s_l_cut13 : Sp) (s_least : Sp) (s_l_first13 : Sp) (E : XK) : TS :=
  (tSeq (tIfS (tTest (tOp rEq (tOp nMod (tCall s_l_cell_at [] E (tCons (tVar 0) (tCons (tC (.int 0)) tNil))) (tC (.int 4))) (tC (.int 1)))) (tAsg (tOp nMod (tOp nDiv (tCall s_l_cell_at [] E (tCons (tVar 0) (tCons (tC (.int 0)) tNil))) (tC (.int 4))) (tC (.int 41))) (gName 1)) tNext)
    (t_law_k13_2 K s_l_cell_at s_l_number_by s_even s_l_end_by13 s_l_held s_added s_filled s_l_changed13 s_l_cut13 s_least s_l_first13 E))
def t_law_k13 (K : PySem.W.Frag) (s_l_cell_at : Sp) (s_l_number_by : Sp) (s_even : Sp) (s_l_end_by13 : Sp) (s_l_held : Sp) (s_added : Sp) (s_filled : Sp) (s_l_changed13 : Sp) (s_l_cut13 : Sp) (s_least : Sp) (s_l_first13 : Sp) (E : XK) : TS :=
  (tSeq (tAsg (tOp nMod (tOp nDiv (tCall s_l_cell_at [] E (tCons (tVar 0) (tCons (tC (.int 0)) tNil))) (tC (.int 4))) (tOp nAdd (tOp nPow (tC (.int 10)) (tC (.int 12))) (tC (.int 1)))) (gName 1))
    (t_law_k13_1 K s_l_cell_at s_l_number_by s_even s_l_end_by13 s_l_held s_added s_filled s_l_changed13 s_l_cut13 s_least s_l_first13 E))
end RB
namespace RB
open PySem PySem.Spec PyProof.Rows L2
def seg (f : Int → Int) (a : Int) (n : Nat) : List Int := (List.range n).map fun i => f (a + (i : Nat))
theorem seg_length (f : Int → Int) (a : Int) (n : Nat) : (seg f a n).length = n := by simp [seg]
theorem seg_get {f : Int → Int} {a : Int} {n i : Nat} (h : i < n) : (seg f a n)[i]? = some (f (a + (i : Nat))) := by
  simp [seg, List.getElem?_map, List.getElem?_range h]
theorem seg_append (f : Int → Int) (a : Int) (n k : Nat) : seg f a (n + k) = seg f a n ++ seg f (a + (n : Nat)) k := by
  apply List.ext_getElem?
  intro i
  by_cases h : i < n
  · rw [List.getElem?_append_left (by rw [seg_length]; exact h), seg_get h, seg_get (by omega)]
  · rw [List.getElem?_append_right (by rw [seg_length]; omega), seg_length]
    by_cases h2 : i < n + k
    · rw [seg_get h2, seg_get (by omega)]
      congr 2
      omega
    · rw [List.getElem?_eq_none (by rw [seg_length]; omega), List.getElem?_eq_none (by rw [seg_length]; omega)]
theorem seg_congr {f g : Int → Int} {a b : Int} {n : Nat} (h : ∀ i : Nat, i < n → f (a + i) = g (b + i)) : seg f a n = seg g b n := by
  unfold seg
  apply List.map_congr_left
  intro i hi
  exact h i (List.mem_range.mp hi)
theorem seg_map (g : Int → Int) (f : Int → Int) (a : Int) (n : Nat) : (seg f a n).map g = seg (fun i => g (f i)) a n := by
  simp [seg, List.map_map, Function.comp_def]
theorem seg_zero (f : Int → Int) (a : Int) : seg f a 0 = [] := rfl
theorem seg_const (c a : Int) (n : Nat) : seg (fun _ => c) a n = List.replicate n c := by
  simp [seg, List.map_const']
inductive T where
  | leaf (m t l mo : Int)
  | node (m t l mo : Int) (a b : T)
namespace T
def many : T → Int
  | leaf m _ _ _ => m
  | node m _ _ _ _ _ => m
def tot : T → Int
  | leaf _ t _ _ => t
  | node _ t _ _ _ _ => t
def low : T → Int
  | leaf _ _ l _ => l
  | node _ _ l _ _ _ => l
def more : T → Int
  | leaf _ _ _ o => o
  | node _ _ _ o _ _ => o
def ht : T → Nat
  | leaf _ _ _ _ => 0
  | node _ _ _ _ a b => max a.ht b.ht + 1
def den : T → Int → Int
  | leaf _ _ l _, _ => l
  | node _ _ _ o a b, i => (if i < a.many then a.den i else b.den (i - a.many)) + o
def Wf : T → Prop
  | leaf m t l o => (0 ≤ m ∧ o = 0) ∧ t = m * l
  | node m t l o a b => a.Wf ∧ b.Wf ∧ 0 < a.many ∧ 0 < b.many ∧ m = a.many + b.many ∧ t = a.tot + b.tot + m * o ∧ l = min a.low b.low + o ∧ a.many = m / 2
theorem Wf.nn : ∀ {t : T}, t.Wf → 0 ≤ t.many
  | leaf _ _ _ _, h => h.1.1
  | node _ _ _ _ _ _, h => by
    obtain ⟨_, _, h1, h2, h3, _⟩ := h
    show (0 : Int) ≤ _
    dsimp only [many]
    omega
end T
def cut (t : T) (lo hi : Int) : List Int := seg t.den (max lo 0) (min hi t.many - max lo 0).toNat
theorem cut_none {t : T} {lo hi : Int} (h : min hi t.many ≤ max lo 0) : cut t lo hi = [] := by
  unfold cut
  rw [show (min hi t.many - max lo 0).toNat = 0 by omega]
  rfl
theorem cut_leaf {m t l o lo hi : Int} : cut (.leaf m t l o) lo hi = List.replicate (min hi m - max lo 0).toNat l := by
  unfold cut
  exact seg_const l _ _
theorem cut_node {m t l o lo hi : Int} {a b : T} (ha : 0 ≤ a.many) (hb : 0 ≤ b.many) (hm : m = a.many + b.many) :
    cut (.node m t l o a b) lo hi = (cut a (max lo 0) (min hi m) ++ cut b (max lo 0 - a.many) (min hi m - a.many)).map (· + o) := by
  unfold cut
  rw [List.map_append, seg_map, seg_map]
  show seg _ (max lo 0) (min hi m - max lo 0).toNat = _
  generalize hL : max lo 0 = L
  generalize hH : min hi m = Hh
  have hL0 : 0 ≤ L := by omega
  have hHm : Hh ≤ m := by omega
  rw [show max L 0 = L by omega]
  have e1 : (Hh - L).toNat = (min Hh a.many - L).toNat + (min (Hh - a.many) b.many - max (L - a.many) 0).toNat := by omega
  rw [e1, seg_append]
  congr 1
  · apply seg_congr
    intro i hi
    show (if L + (i : Int) < a.many then _ else _) + o = _
    rw [if_pos (by omega)]
  · by_cases z : (min (Hh - a.many) b.many - max (L - a.many) 0).toNat = 0
    · rw [z, seg_zero, seg_zero]
    · apply seg_congr
      intro i hi
      show (if L + _ + (i : Int) < a.many then _ else _) + o = _
      rw [if_neg (by omega)]
      congr 2
      omega
theorem cut_len (t : T) (lo hi : Int) : (cut t lo hi).length = (min hi t.many - max lo 0).toNat := seg_length _ _ _
def flds (m t l o L R : V) : List (Str × V) := [("many", m), ("total", t), ("least", l), ("more", o), ("left", L), ("right", R)]
def TreeAt (C : Addr) (H : Hp) : Addr → T → Prop
  | p, .leaf m t l o => ∃ dx, H p = some (.ins C dx (flds (.int m) (.int t) (.int l) (.int o) .non .non))
  | p, .node m t l o a b => ∃ dx pa pb, H p = some (.ins C dx (flds (.int m) (.int t) (.int l) (.int o) (.ref pa) (.ref pb))) ∧ TreeAt C H pa a ∧ TreeAt C H pb b
theorem TreeAt.ins {C : Addr} {H H' : Hp} (s : Ins H H') : ∀ {t : T} {p : Addr}, TreeAt C H p t → TreeAt C H' p t
  | .leaf _ _ _ _, _, ⟨dx, h⟩ => ⟨dx, s _ _ _ _ h⟩
  | .node _ _ _ _ _ _, _, ⟨dx, pa, pb, h, ha, hb⟩ => ⟨dx, pa, pb, s _ _ _ _ h, ha.ins s, hb.ins s⟩
theorem TreeAt.same {C : Addr} {H H' : Hp} {t : T} {p : Addr} (h : TreeAt C H p t) (s : Same H H') : TreeAt C H' p t := h.ins (.same s)
structure Tx (K : PySem.W.Frag) (C : Addr) : Prop where
  cl : Cls K C
  many : NoAttr K C "many"
  total : NoAttr K C "total"
  least : NoAttr K C "least"
  more : NoAttr K C "more"
  left : NoAttr K C "left"
  right : NoAttr K C "right"
section
variable {K : PySem.W.Frag} {C dx p : Addr} {H : Hp} {Q : VK} {m t l o L R : V}
theorem lk_many : (flds m t l o L R).lookup ("many" : Str) = some m := rfl
theorem lk_total : (flds m t l o L R).lookup ("total" : Str) = some t := rfl
theorem lk_least : (flds m t l o L R).lookup ("least" : Str) = some l := rfl
theorem lk_more : (flds m t l o L R).lookup ("more" : Str) = some o := rfl
theorem lk_left : (flds m t l o L R).lookup ("left" : Str) = some L := rfl
theorem lk_right : (flds m t l o L R).lookup ("right" : Str) = some R := rfl
theorem f_many (X : Tx K C) (h : H p = some (.ins C dx (flds m t l o L R))) : nFld K "many" (.ref p) H Q = Q m H := nFld_ap h X.cl X.many lk_many
theorem f_total (X : Tx K C) (h : H p = some (.ins C dx (flds m t l o L R))) : nFld K "total" (.ref p) H Q = Q t H := nFld_ap h X.cl X.total lk_total
theorem f_least (X : Tx K C) (h : H p = some (.ins C dx (flds m t l o L R))) : nFld K "least" (.ref p) H Q = Q l H := nFld_ap h X.cl X.least lk_least
theorem f_more (X : Tx K C) (h : H p = some (.ins C dx (flds m t l o L R))) : nFld K "more" (.ref p) H Q = Q o H := nFld_ap h X.cl X.more lk_more
theorem f_left (X : Tx K C) (h : H p = some (.ins C dx (flds m t l o L R))) : nFld K "left" (.ref p) H Q = Q L H := nFld_ap h X.cl X.left lk_left
theorem f_right (X : Tx K C) (h : H p = some (.ins C dx (flds m t l o L R))) : nFld K "right" (.ref p) H Q = Q R H := nFld_ap h X.cl X.right lk_right
theorem TreeAt.root {t : T} (h : TreeAt C H p t) : ∃ dx L R, H p = some (.ins C dx (flds (.int t.many) (.int t.tot) (.int t.low) (.int t.more) L R)) := by
  cases t with
  | leaf m t l o => obtain ⟨dx, h⟩ := h; exact ⟨dx, _, _, h⟩
  | node m t l o a b => obtain ⟨dx, pa, pb, h, _⟩ := h; exact ⟨dx, _, _, h⟩
end
theorem sum_map_add (o : Int) : ∀ l : List Int, (l.map (· + o)).sum = l.sum + (l.length : Int) * o
  | [] => by simp
  | x :: r => by
    have ih := sum_map_add o r
    rw [List.map_cons, List.sum_cons, List.sum_cons, ih, List.length_cons, Int.natCast_succ, Int.add_mul]
    omega
theorem sum_replicate (o : Int) : ∀ n : Nat, (List.replicate n o).sum = (n : Int) * o
  | 0 => by simp
  | n + 1 => by
    rw [List.replicate_succ, List.sum_cons, sum_replicate o n, Int.natCast_succ, Int.add_mul]
    omega
theorem cut_whole {t : T} {lo hi : Int} (h : min hi t.many - max lo 0 = t.many) (h0 : 0 ≤ t.many) (hn : 0 < t.many) : cut t lo hi = cut t 0 t.many := by
  unfold cut
  rw [show max lo 0 = 0 by omega, show min hi t.many = t.many by omega]
  simp
theorem cut_tot : ∀ {t : T}, t.Wf → (cut t 0 t.many).sum = t.tot
  | .leaf m t l o, h => by
    rw [cut_leaf, sum_replicate]
    obtain ⟨h0, h1⟩ := h
    show (((min m m - max 0 0).toNat : Nat) : Int) * l = t
    rw [h1, show (((min m m - max 0 0).toNat : Nat) : Int) = m by omega]
  | .node m t l o a b, h => by
    obtain ⟨wa, wb, ha, hb, hm, ht, hl⟩ := h
    rw [cut_node (by omega) (by omega) hm]
    show (List.map _ (cut a (max 0 0) (min m m) ++ cut b (max 0 0 - a.many) (min m m - a.many))).sum = t
    have ea : cut a (max 0 0) (min m m) = cut a 0 a.many := cut_whole (by omega) (by omega) ha
    have eb : cut b (max 0 0 - a.many) (min m m - a.many) = cut b 0 b.many := cut_whole (by omega) (by omega) hb
    rw [ea, eb, sum_map_add, List.sum_append, cut_tot wa, cut_tot wb, List.length_append, cut_len, cut_len, ht]
    congr 2
    omega
theorem low_le : ∀ {t : T} {i : Int}, t.Wf → 0 ≤ i → i < t.many → t.low ≤ t.den i
  | .leaf _ _ _ _, _, _, _, _ => Int.le_refl _
  | .node m t l o a b, i, h, h0, h1 => by
    obtain ⟨wa, wb, ha, hb, hm, ht, hl⟩ := h
    have h1' : i < m := h1
    show l ≤ (if i < a.many then a.den i else b.den (i - a.many)) + o
    split
    · have := low_le (t := a) (i := i) wa h0 (by omega)
      omega
    · have := low_le (t := b) (i := i - a.many) wb (by omega) (by omega)
      omega
def IsFirst (t : T) (lo b : Int) : Option Int → Prop
  | none => ∀ i, max lo 0 ≤ i → i < t.many → b < t.den i
  | some k => max lo 0 ≤ k ∧ k < t.many ∧ t.den k ≤ b ∧ ∀ i, max lo 0 ≤ i → i < k → b < t.den i
def optV : Option Int → V
  | none => .non
  | some i => .int i
end RB
namespace RB
open PySem PySem.Spec PyProof.Rows L2
local macro_rules | `(tactic| walk_at "ev") => `(tactic| try simp only [tSeq, tIfS, tTest, tNot, tAnd, tOr, tB, tOp, tUn, tVar, tC, tRet, tAsg, gName, tNext, tCB, tCons, tNil, tDrop, tRaise, tChain, tChain3, tAndV, tOrV, tNotV, tIf, tCall, tFld_ap, tLc_ap, tLcR_ap, tFor_ap, tForR_ap, tForR2_ap, nTry, nTryAs, tCallS, tKnown, tBM, gSub, tSl, tNoPart, tPart, tLst, tTup, wipe,
  List.getElem?_cons_zero, List.getElem?_cons_succ, List.set_cons_zero, List.set_cons_succ, ex_some, ex_bl, ex_int, List.nil_append, List.cons_append, List.append_nil,
  nAdd_ap, nSub_ap, nLt_ap, nLe_ap, nGt_ap, nGe_ap, nMul_ap, nMulW_ap, nDiv_ap, nMod_ap, nPow_ap, nNeg_ap, nMax_ap, nMin_ap, rEq_ap, rNe_ap, nIs_ap, nIsNot_ap, dec_int_non, dec_ref_non, dec_non_non, ref_non, int_non, non_ref, non_int, isi_int_int, isi_int_bool,
  decide_eq_true_eq, Bool.not_eq_true', decide_eq_false_iff_not, decide_true, decide_false, Bool.not_true, Bool.not_false, ite_tt', ite_ff', Bool.false_eq_true, Bool.true_eq_false, not_true_eq_false, not_false_eq_true, if_true, if_false])
section
variable {K : PySem.W.Frag} {C : Addr}
def sp_check_stretch (C CO : Addr) : Sp := fun vs H Q E => ∃ (p : Addr) (t : T) (lo hi : Int), vs = [.ref p, .int lo, .int hi] ∧ TreeAt C H p t ∧
  ((0 ≤ lo ∧ lo ≤ hi ∧ hi ≤ t.many) → Q .non H) ∧ (¬ (0 ≤ lo ∧ lo ≤ hi ∧ hi ≤ t.many) → E (.ref CO) none H)
theorem p_check_stretch (X : Tx K C) {CO : Addr} (vs : List V) (H : Hp) (Q : VK) (E : XK) (h : sp_check_stretch C CO vs H Q E) :
    t_check_stretch K CO E { nx := fun _ H' => Q .non H', rt := Q } (start ["book", "low", "high"] vs) H := by
  obtain ⟨p, t, lo, hi, rfl, hT, q1, q2⟩ := h
  obtain ⟨dx, L, R, hp⟩ := hT.root
  show t_check_stretch K CO E _ [some (.ref p), some (.int lo), some (.int hi)] H
  unfold t_check_stretch
  walk_at "ev"
  simp only [f_many X hp]
  walk_at "ev"
  split
  · split
    · split
      · exact q2 (by omega)
      · exact q1 (by omega)
    · exact q2 (by omega)
  · exact q2 (by omega)
def sp_Tree (C : Addr) : Sp := fun vs H Q _ => ∃ (p dx : Addr) (m t l o L R : V), vs = [.ref p, m, t, l, o, L, R] ∧ H p = some (.ins C dx []) ∧ Q .non (upd H p (.ins C dx (flds m t l o L R)))
theorem n1 : ¬ (("many" : Str) = "total") := by decide +kernel
theorem p_Tree_init (X : Tx K C) (vs : List V) (H : Hp) (Q : VK) (E : XK) (h : sp_Tree C vs H Q E) :
    t_Tree_init K E { nx := fun _ H' => Q .non H', rt := Q } (start ["self", "many", "total", "least", "more", "left", "right"] vs) H := by
  obtain ⟨p, dx, m, t, l, o, L, R, rfl, hp, q⟩ := h
  show t_Tree_init K E _ [some (.ref p), some m, some t, some l, some o, some L, some R] H
  have e : upd (upd (upd (upd (upd (upd H p (.ins C dx (putF "many" m []))) p (.ins C dx (putF "total" t (putF "many" m [])))) p (.ins C dx (putF "least" l (putF "total" t (putF "many" m [])))))
    p (.ins C dx (putF "more" o (putF "least" l (putF "total" t (putF "many" m [])))))) p (.ins C dx (putF "left" L (putF "more" o (putF "least" l (putF "total" t (putF "many" m []))))))) p
    (.ins C dx (putF "right" R (putF "left" L (putF "more" o (putF "least" l (putF "total" t (putF "many" m []))))))) = upd H p (.ins C dx (flds m t l o L R)) := by
    simp only [upd_upd]
    rfl
  refine ⟨_, rfl, _, rfl, p, C, dx, [], rfl, hp, X.cl, X.many, (by show 0 < 1000; decide), ?_⟩
  refine ⟨_, rfl, _, rfl, p, C, dx, _, rfl, upd_same, X.cl, X.total, (by show 1 < 1000; decide), ?_⟩
  refine ⟨_, rfl, _, rfl, p, C, dx, _, rfl, upd_same, X.cl, X.least, (by show 2 < 1000; decide), ?_⟩
  refine ⟨_, rfl, _, rfl, p, C, dx, _, rfl, upd_same, X.cl, X.more, (by show 3 < 1000; decide), ?_⟩
  refine ⟨_, rfl, _, rfl, p, C, dx, _, rfl, upd_same, X.cl, X.left, (by show 4 < 1000; decide), ?_⟩
  refine ⟨_, rfl, _, rfl, p, C, dx, _, rfl, upd_same, X.cl, X.right, (by show 5 < 1000; decide), ?_⟩
  show Q .non _
  rw [e]
  exact q
theorem make_tree {H : Hp} {Q : VK} {E : XK} {m t l o L R : V} {σ : L2.St} {ta : TA} (h : ta σ H = fun q => q [m, t, l, o, L, R] H)
    (q : ∀ x dx, H x = none → Same H (upd (upd H dx (.own x)) x (.ins C dx (flds m t l o L R))) → Q (.ref x) (upd (upd H dx (.own x)) x (.ins C dx (flds m t l o L R)))) : tMake C (sp_Tree C) [] E ta σ H Q := by
  unfold tMake
  rw [h]
  intro x dx nx nd ne
  refine ⟨x, dx, m, t, l, o, L, R, rfl, upd_same, rfl, ?_⟩
  rw [upd_upd]
  refine q x dx nx fun b u e => ?_
  rw [upd_ne (ne_of_none e nx), upd_ne (ne_of_none e nd)]
  exact e
def sp_even_tree (C : Addr) : Sp := fun vs H Q _ => ∃ (m v : Int), vs = [.int m, .int v] ∧ 0 ≤ m ∧ m ≤ 1000000000000 ∧ ∀ (x : Addr) (H' : Hp), Same H H' → H x = none → TreeAt C H' x (.leaf m (m * v) v 0) → Q (.ref x) H'
theorem p_even_tree (vs : List V) (H : Hp) (Q : VK) (E : XK) (h : sp_even_tree C vs H Q E) :
    t_even_tree C (sp_Tree C) E { nx := fun _ H' => Q .non H', rt := Q } (start ["many", "number"] vs) H := by
  obtain ⟨m, v, rfl, h0, h1, q⟩ := h
  show t_even_tree C (sp_Tree C) E _ [some (.int m), some (.int v)] H
  unfold t_even_tree tRet
  refine make_tree (m := .int m) (t := .int (m * v)) (l := .int v) (o := .int 0) (L := .non) (R := .non) ?_ fun x dx nx s => q x _ s nx ⟨dx, upd_same⟩
  funext q
  walk_at "ev"
  exact propext ⟨fun h => h.2, fun h => ⟨.inl ⟨by omega, by omega⟩, h⟩⟩
def sp_even (C CN : Addr) : Sp := fun vs H Q E => ∃ (m v : Int), vs = [.int m, .int v] ∧ ((0 ≤ m ∧ m ≤ 1000000000000) → ∀ (x : Addr) (H' : Hp), Same H H' → H x = none → TreeAt C H' x (.leaf m (m * v) v 0) → Q (.ref x) H') ∧
  (¬ (0 ≤ m ∧ m ≤ 1000000000000) → E (.ref CN) none H)
theorem p_even {CN : Addr} (vs : List V) (H : Hp) (Q : VK) (E : XK) (h : sp_even C CN vs H Q E) :
    t_even CN (sp_even_tree C) E { nx := fun _ H' => Q .non H', rt := Q } (start ["many", "number"] vs) H := by
  obtain ⟨m, v, rfl, q1, q2⟩ := h
  show t_even CN (sp_even_tree C) E _ [some (.int m), some (.int v)] H
  unfold t_even
  walk_at "ev"
  split
  · exact q2 (by omega)
  · split
    · exact q2 (by omega)
    · exact ⟨m, v, rfl, by omega, by omega, q1 (by omega)⟩
def sp_numbers_in (C : Addr) (n : Nat) : Sp := fun vs H Q _ => ∃ (p : Addr) (t : T) (lo hi ab : Int), vs = [.ref p, .int lo, .int hi, .int ab] ∧ TreeAt C H p t ∧ t.Wf ∧ t.ht < n ∧ min hi t.many - max lo 0 ≤ 1000 ∧
  ∀ (r : Addr) (H' : Hp), Same H H' → H r = none → H' r = some (.lst (((cut t lo hi).map (· + ab)).map V.int)) → Q (.ref r) H'
theorem p_numbers_in (X : Tx K C) {n : Nat} (vs : List V) (H : Hp) (Q : VK) (E : XK) (h : sp_numbers_in C (n + 1) vs H Q E) :
    t_numbers_in K (sp_numbers_in C n) E { nx := fun _ H' => Q .non H', rt := Q } (start ["tree", "low", "high", "above", "half", "ahead", "behind"] vs) H := by
  obtain ⟨p, t, lo, hi, ab, rfl, hT, wf, hh, hz, q⟩ := h
  show t_numbers_in K (sp_numbers_in C n) E _ [some (.ref p), some (.int lo), some (.int hi), some (.int ab), none, none, none] H
  unfold t_numbers_in
  obtain ⟨dx, L, R, hp⟩ := hT.root
  walk_at "ev"
  simp only [f_many X hp]
  walk_at "ev"
  split
  · rename_i hc
    refine ⟨Nat.zero_le _, fun r hr => q r _ (same_new hr _) hr ?_⟩
    rw [upd_same, cut_none hc]
    rfl
  rename_i hc
  cases t with
  | leaf m t l o =>
    obtain ⟨dx, hp⟩ := hT
    have hc' : ¬ min hi m ≤ max lo 0 := hc
    have hz' : min hi m - max lo 0 ≤ 1000 := hz
    simp only [f_left X hp, tLst]
    walk_at "ev"
    simp only [f_least X hp]
    walk_at "ev"
    refine ⟨(by show 1 ≤ sizeLine; decide), fun r0 h0 => ⟨r0, _, [.int (l + ab)], rfl, rfl, upd_same, ?_, ?_, ?_, fun r hr => ?_⟩⟩
    · show _ ≤ min hi m - max lo 0
      omega
    · show min hi m - max lo 0 < _
      omega
    · show 1 * (min hi m - max lo 0).toNat ≤ _
      rw [Nat.one_mul]
      exact Nat.le_of_lt (small1000 (by omega))
    · have s1 := same_new h0 (.lst [.int (l + ab)])
      refine q r _ (s1.trans (same_new hr _)) (s1.free hr) ?_
      rw [upd_same, cut_leaf, List.flatten_replicate_singleton, List.map_replicate, List.map_replicate]
      rfl
  | node m t l o a b =>
    obtain ⟨dx, pa, pb, hp, ha, hb⟩ := hT
    obtain ⟨wa, wb, a0, b0, em, et, el⟩ := wf
    have hc' : ¬ min hi m ≤ max lo 0 := hc
    have hz' : min hi m - max lo 0 ≤ 1000 := hz
    have hh' : max a.ht b.ht + 1 < n + 1 := hh
    obtain ⟨dxa, La, Ra, hpa⟩ := ha.root
    simp only [f_left X hp]
    walk_at "ev"
    simp only [f_many X hpa, f_left X hp]
    walk_at "ev"
    simp only [f_more X hp]
    walk_at "ev"
    refine ⟨pa, a, _, _, _, rfl, ha, wa, by omega, (by show min (min hi m) a.many - max (max lo 0) 0 ≤ 1000; omega), fun r1 H1 s1 n1 e1 => ?_⟩
    have hp1 := s1 _ _ hp
    simp only [f_right X hp1]
    walk_at "ev"
    simp only [f_more X hp1]
    walk_at "ev"
    refine ⟨pb, b, _, _, _, rfl, hb.same s1, wb, by omega, (by show min (min hi m - a.many) b.many - max (max lo 0 - a.many) 0 ≤ 1000; omega), fun r2 H2 s2 n2 e2 => ?_⟩
    have l1 := cut_len a (max lo 0) (min hi m)
    have l2 := cut_len b (max lo 0 - a.many) (min hi m - a.many)
    have e1' := s2 _ _ e1
    walk_at "ev"
    refine ⟨r1, r2, _, _, rfl, rfl, e1', e2, ?_, fun r3 n3 => ?_⟩
    · rw [List.length_map, List.length_map, List.length_map, List.length_map]
      show (cut a (max lo 0) (min hi m)).length + (cut b (max lo 0 - a.many) (min hi m - a.many)).length ≤ sizeLine
      rw [l1, l2]
      exact small (by omega)
    · refine q r3 _ (s1.trans (s2.trans (same_new n3 _))) (s1.free (s2.free n3)) ?_
      rw [upd_same, cut_node (by omega) (by omega) em, List.map_map (f := fun x => x + o), ← List.map_append, ← List.map_append]
      have e : (fun x => x + ab) ∘ (fun x => x + o) = fun x : Int => x + (ab + o) := by
        funext x
        show x + o + ab = x + (ab + o)
        omega
      rw [e]
      rfl
theorem no_numbers_in : ∀ vs H Q E, ¬ sp_numbers_in C 0 vs H Q E := fun vs H Q E h => by
  obtain ⟨_, t, _, _, _, _, _, _, h, _⟩ := h
  omega
def sp_listed (C CO CT : Addr) (n : Nat) : Sp := fun vs H Q E => ∃ (p : Addr) (t : T) (lo hi : Int), vs = [.ref p, .int lo, .int hi] ∧ TreeAt C H p t ∧ t.Wf ∧ t.ht < n ∧
  ((0 ≤ lo ∧ lo ≤ hi ∧ hi ≤ t.many ∧ hi - lo ≤ 1000) → ∀ (r : Addr) (H' : Hp), Same H H' → H r = none → H' r = some (.lst ((seg t.den lo (hi - lo).toNat).map V.int)) → Q (.ref r) H') ∧
  (¬ (0 ≤ lo ∧ lo ≤ hi ∧ hi ≤ t.many) → E (.ref CO) none H) ∧ ((0 ≤ lo ∧ lo ≤ hi ∧ hi ≤ t.many ∧ 1000 < hi - lo) → E (.ref CT) none H)
theorem p_listed {CO CT : Addr} {n : Nat} (vs : List V) (H : Hp) (Q : VK) (E : XK) (h : sp_listed C CO CT n vs H Q E) :
    t_listed CT (sp_check_stretch C CO) (sp_numbers_in C n) E { nx := fun _ H' => Q .non H', rt := Q } (start ["book", "low", "high"] vs) H := by
  obtain ⟨p, t, lo, hi, rfl, hT, wf, hh, q1, q2, q3⟩ := h
  show t_listed CT (sp_check_stretch C CO) (sp_numbers_in C n) E _ [some (.ref p), some (.int lo), some (.int hi)] H
  unfold t_listed
  walk_at "ev"
  refine ⟨p, t, lo, hi, rfl, hT, fun hc => ?_, q2⟩
  split
  · exact q3 (by omega)
  · refine ⟨p, t, lo, hi, 0, rfl, hT, wf, hh, by omega, fun r H' s n e => q1 (by omega) r H' s n ?_⟩
    rw [e, show (fun x : Int => x + 0) = id from funext fun x => Int.add_zero x, List.map_id]
    unfold cut
    rw [show max lo 0 = lo by omega, show min hi t.many = hi by omega]
end
end RB
namespace RB
open PySem PySem.Spec PyProof.Rows L2
local macro_rules | `(tactic| walk_at "ev") => `(tactic| try simp only [tSeq, tIfS, tTest, tNot, tAnd, tOr, tB, tOp, tUn, tVar, tC, tRet, tAsg, gName, tNext, tCB, tCons, tNil, tDrop, tRaise, tChain, tChain3, tAndV, tOrV, tNotV, tIf, tCall, tFld_ap, tLc_ap, tLcR_ap, tFor_ap, tForR_ap, tForR2_ap, nTry, nTryAs, tCallS, tKnown, tBM, gSub, tSl, tNoPart, tPart, tLst, tTup, wipe,
  List.getElem?_cons_zero, List.getElem?_cons_succ, List.set_cons_zero, List.set_cons_succ, ex_some, ex_bl, ex_int, List.nil_append, List.cons_append, List.append_nil,
  nAdd_ap, nSub_ap, nLt_ap, nLe_ap, nGt_ap, nGe_ap, nMul_ap, nMulW_ap, nDiv_ap, nMod_ap, nPow_ap, nNeg_ap, nMax_ap, nMin_ap, rEq_ap, rNe_ap, nIs_ap, nIsNot_ap, dec_int_non, dec_ref_non, dec_non_non, ref_non, int_non, non_ref, non_int, isi_int_int, isi_int_bool,
  decide_eq_true_eq, Bool.not_eq_true', decide_eq_false_iff_not, decide_true, decide_false, Bool.not_true, Bool.not_false, ite_tt', ite_ff', Bool.false_eq_true, Bool.true_eq_false, not_true_eq_false, not_false_eq_true, if_true, if_false])
section
variable {K : PySem.W.Frag} {C : Addr}
def sp_l_whole : Sp := fun vs H Q _ => ∃ i : Int, vs = [.int i] ∧ Q (.bl true) H
theorem l_whole_ap {i : Int} {H : Hp} {Q : VK} {E : XK} : sp_l_whole [.int i] H Q E = Q (.bl true) H := by
  unfold sp_l_whole
  apply propext
  constructor
  · rintro ⟨j, e, q⟩
    exact q
  · intro q
    exact ⟨i, rfl, q⟩
theorem p_l_whole (vs : List V) (H : Hp) (Q : VK) (E : XK) (h : sp_l_whole vs H Q E) :
    t_l_whole K E { nx := fun _ H' => Q .non H', rt := Q } (start ["_law_found"] vs) H := by
  obtain ⟨i, rfl, q⟩ := h
  show t_l_whole K E _ [some (.int i)] H
  unfold t_l_whole
  walk_at "ev"
  exact q
def cell (ns : List Int) (k : Nat) : Int := ns.getD k 0
def sp_l_cell_at (K : PySem.W.Frag) : Sp := fun vs H Q _ => ∃ (a : Addr) (ns : List Int) (k : Nat), vs = [.ref a, .int (k : Nat)] ∧ SqL K H a (ns.map V.int) ∧ Q (.int (cell ns k)) H
theorem p_l_cell_at (vs : List V) (H : Hp) (Q : VK) (E : XK) (h : sp_l_cell_at K vs H Q E) :
    t_l_cell_at K E { nx := fun _ H' => Q .non H', rt := Q } (start ["_law_script", "_law_k"] vs) H := by
  obtain ⟨a, ns, k, rfl, hS, q⟩ := h
  show t_l_cell_at K E _ [some (.ref a), some (.int k)] H
  unfold t_l_cell_at
  walk_at "ev"
  refine nLen_ap hS ?_
  walk_at "ev"
  rw [List.length_map]
  split
  · rename_i hk
    have hk' : k < ns.length := by omega
    refine ⟨a, _, _, _, rfl, rfl, hS, atI_nat (j := k) (by rw [List.getElem?_map, List.getElem?_eq_getElem hk']; rfl), ?_⟩
    have e : cell ns k = ns[k] := by
      unfold cell
      rw [List.getD_eq_getElem?_getD, List.getElem?_eq_getElem hk']
      rfl
    rw [e] at q
    exact q
  · have e : cell ns k = 0 := by
      unfold cell
      rw [List.getD_eq_getElem?_getD, List.getElem?_eq_none (by omega)]
      rfl
    rw [e] at q
    exact q
def numBy (c : Int) : Int := if c % 16 = 5 then (c / 16 % 5 - 2) * 10 ^ 64 * 10 ^ 64 * 10 ^ 64 else if c % 4 = 1 then c / 4 % (2 * 10 ^ 60 + 1) - 10 ^ 60 else if c % 4 = 2 then c / 4 % 3 - 1 else c / 4 % 41 - 20
def sp_l_number_by : Sp := fun vs H Q _ => ∃ c : Int, vs = [.int c] ∧ Q (.int (numBy c)) H
theorem l_number_by_ap {c : Int} {H : Hp} {Q : VK} {E : XK} : sp_l_number_by [.int c] H Q E = Q (.int (numBy c)) H := by
  unfold sp_l_number_by
  apply propext
  constructor
  · rintro ⟨j, e, q⟩
    cases e
    exact q
  · intro q
    exact ⟨c, rfl, q⟩
theorem p_l_number_by (vs : List V) (H : Hp) (Q : VK) (E : XK) (h : sp_l_number_by vs H Q E) :
    t_l_number_by E { nx := fun _ H' => Q .non H', rt := Q } (start ["_law_cell"] vs) H := by
  obtain ⟨c, rfl, q⟩ := h
  show t_l_number_by E _ [some (.int c)] H
  unfold t_l_number_by
  walk_at "ev"
  have t10 : ∀ k : Nat, ((10 : Int) ^ k).natAbs = 10 ^ k := fun k => by
    rw [Int.natAbs_pow]
    rfl
  have p10 : ∀ j : Int, 0 ≤ j → j ≤ 64 → CPow 10 j := fun j h0 h1 => ⟨h0, by omega, by decide⟩
  have b10 : ∀ k : Nat, k ≤ 64 → ((10 : Int) ^ k).natAbs < 2 ^ (4 * k + 1) := fun k hk => by
    rw [t10]
    exact Nat.lt_of_le_of_lt (Nat.pow_le_pow_left (by decide : 10 ≤ 16) k) (by rw [show (16 : Nat) = 2 ^ 4 by rfl, ← Nat.pow_mul]; exact Nat.pow_lt_pow_right (by decide) (by omega))
  have e64 : Int.toNat 64 = 64 := rfl
  have e60 : Int.toNat 60 = 60 := rfl
  rw [e64, e60]
  have s0 : (c / 16 % 5 - 2).natAbs < 2 ^ 2 := by omega
  have s1 := wide_lt s0 (b10 64 (by decide))
  have s2 := wide_lt s1 (b10 64 (by decide))
  refine ⟨by decide, ?_⟩
  unfold numBy at q
  split
  · rename_i hc
    rw [if_pos hc] at q
    exact ⟨⟨by decide, by decide⟩, by decide, p10 _ (by decide) (by decide), .inl ⟨by omega, by omega⟩, p10 _ (by decide) (by decide),
      wide_mul s1 (b10 64 (by decide)) (by decide) (by decide) (by decide), p10 _ (by decide) (by decide), wide_mul s2 (b10 64 (by decide)) (by decide) (by decide) (by decide), q⟩
  rename_i hc
  rw [if_neg hc] at q
  refine ⟨by decide, ?_⟩
  have d4 : CDiv c 4 := ⟨by decide, by decide⟩
  split
  · rename_i h1
    rw [if_pos h1] at q
    have pp : (0 : Int) < 10 ^ 60 := by
      have := Int.pow_pos (n := 10) (m := 60) (by decide)
      exact this
    exact ⟨d4, p10 _ (by decide) (by decide), .inl ⟨by decide, by decide⟩, by omega, p10 _ (by decide) (by decide), q⟩
  rename_i h1
  rw [if_neg h1] at q
  refine ⟨by decide, ?_⟩
  split
  · rename_i h2
    rw [if_pos h2] at q
    exact ⟨d4, by decide, q⟩
  · rename_i h2
    rw [if_neg h2] at q
    exact ⟨d4, by decide, q⟩
end
end RB
namespace RB
open PySem PySem.Spec PyProof.Rows L2 LamX NdefX
section
variable {K : PySem.W.Frag} {h : Heap} {mg : Str → Option Value} {x q : Str} {st : Stmt} {ps : List Str} {f C : Addr} {od an : Option Addr} {osl : Array (Option Value)} {oc kV doc pm cdv ct : Value}
theorem DefAt.mk' (X : K.In h) (G : h.Ns mainGlobals mg) (a : PySem.W.nsIn K mainGlobals x = some (some (.ref f))) (l : K.lookup f = some ⟨oc, od, .func (PySem.W.fnOf x x (defArgs st) (defBody st) (defScope st) .none kV doc pm an cdv ct), osl⟩)
    (c : PySem.W.codeIn K cdv x = true) (k : PySem.W.keepIn K (.ref f) = true)
    (b : ∀ (kV doc pm : Value) (an : Option Addr) (cdv ct : Value) (us : List Value), us.length = ps.length → bindArgs (PySem.W.fnOf x x (defArgs st) (defBody st) (defScope st) .none kV doc pm an cdv ct) ⟨us, []⟩ = pure (ps.zip us)) : DefAt K mg x st ps :=
  ⟨f, _, fun_mk l c k, PySem.W.mg_of X G a, (fun_mk l c k).binds b⟩
theorem ExcAt.mk' (X : K.In h) (G : h.Ns mainGlobals mg) (a : PySem.W.nsIn K mainGlobals x = some (some (.ref C)))
    (q : PySem.W.excIn K C [.type "ValueError", .type "Exception", .type "BaseException", .type "object"] "ValueError.__new__" = true) (k : PySem.W.keepIn K (.ref C) = true)
    (b : PySem.W.subIn K (.ref C) (.type "BaseException") = some true) (t : PySem.W.typeIn K (.ref C) = some (.type "type")) : ExcAt K mg x C := ⟨PySem.W.mg_of X G a, q, k, b, t⟩
structure MkAt (K : PySem.W.Frag) (mg : Str → Option Value) (x q : Str) (C : Addr) (st : Stmt) (ps : List Str) : Prop where
  ex : ∃ f fd, Mk K C f ∧ Fun K "__init__" q st f fd ∧ mg x = some (.ref C) ∧ Binds K fd ps []
theorem MkAt.mk' (X : K.In h) (G : h.Ns mainGlobals mg) (aC : PySem.W.nsIn K mainGlobals x = some (some (.ref C))) (a : PySem.W.findIn K (.ref C) "__init__" = some (some (.ref f))) (i : PySem.W.isFn K (.ref f) = true)
    (l : K.lookup f = some ⟨oc, od, .func (PySem.W.fnOf "__init__" q (defArgs st) (defBody st) (defScope st) .none kV doc pm an cdv ct), osl⟩)
    (c : PySem.W.codeIn K cdv q = true) (k : PySem.W.keepIn K (.ref f) = true) (mk : PySem.W.makesIn K C = true) (kc : PySem.W.keepIn K (.ref C) = true)
    (b : ∀ (kV doc pm : Value) (an : Option Addr) (cdv ct : Value) (us : List Value), us.length = ps.length → bindArgs (PySem.W.fnOf "__init__" q (defArgs st) (defBody st) (defScope st) .none kV doc pm an cdv ct) ⟨us, []⟩ = pure (ps.zip us)) : MkAt K mg x q C st ps :=
  ⟨f, _, ⟨mk, a, i, kc⟩, fun_mk l c k, PySem.W.mg_of X G aC, (fun_mk l c k).binds b⟩
variable {P : Program} {w : World} {base : Heap} {N : List Str} {sp : Sp} {n : Nat}
theorem MkAt.cal (D : MkAt K mg x q C st ps) (S : FnScope N ps (defScope st)) (len : ∀ vs H Q E, sp vs H Q E → vs.length = ps.length) (t : XK → TS)
    (der : ∀ (f : Addr) (cdv : Value) (A : Around) (outer : List Env) (s : Shared) (H : Hp) (E : XK), Room n (A.deeper (envOfC q (defScope st) s.heap.objs.size f cdv)) → PSs (cxOf (L2.CX P w) P w K mg base N q (defScope st) f cdv A outer s H E) (defBody st) (t E))
    (pure : ∀ vs H Q E, sp vs H Q E → t E { nx := fun _ H' => Q .non H', rt := Q } (start N vs) H) : CalMk P w K mg base (n + 1) x C ps sp := by
  obtain ⟨f, fd, M, F, hm, hb⟩ := D.ex
  exact ⟨f, fd, M, F.okX S len fun cdv A outer s H vs Q E hr h => ⟨t E, der f cdv A outer s H E hr, pure vs H Q E h⟩, hm, hb⟩
theorem Fun.fn {fd : FuncData} (F : Fun K x q st f fd) (S : FnScope N ps (defScope st)) (len : ∀ vs H Q E, sp vs H Q E → vs.length = ps.length) (t : XK → TS)
    (der : ∀ (f : Addr) (cdv : Value) (A : Around) (outer : List Env) (s : Shared) (H : Hp) (E : XK), Room n (A.deeper (envOfC q (defScope st) s.heap.objs.size f cdv)) → PSs (cxOf (L2.CX P w) P w K mg base N q (defScope st) f cdv A outer s H E) (defBody st) (t E))
    (pure : ∀ vs H Q E, sp vs H Q E → t E { nx := fun _ H' => Q .non H', rt := Q } (start N vs) H) : FnOk P w K mg base (L2.CX P w) (n + 1) f fd ps sp :=
  F.okX S len fun cdv A outer s H vs Q E hr h => ⟨t E, der f cdv A outer s H E hr, pure vs H Q E h⟩
end
theorem num_of {p : Program} {lv : List (Str × PySem.W.WData)} {mg : Str → Option Value} {h : Heap} {x : Str} {n : Int} (G : PySem.W.XL p lv mg h) (hm : (x, PySem.W.WData.int n) ∈ lv) : ∃ t, mg x = some (.int n t) := by
  obtain ⟨v, e, r⟩ := G.2.val _ hm
  cases r
  exact ⟨_, e⟩
theorem Tx.mk' {K : PySem.W.Frag} {C : Addr} (pg : PySem.W.plainGet K C Str.empty = true) (hd : PySem.W.hasDictIn K C = true) (po : PySem.W.plainOver K C = true) (sa : PySem.W.findIn K (.ref C) "__setattr__" = some (some (.builtin "object.__setattr__")))
    (n1 : PySem.W.findIn K (.ref C) "many" = some none) (n2 : PySem.W.findIn K (.ref C) "total" = some none) (n3 : PySem.W.findIn K (.ref C) "least" = some none) (n4 : PySem.W.findIn K (.ref C) "more" = some none)
    (n5 : PySem.W.findIn K (.ref C) "left" = some none) (n6 : PySem.W.findIn K (.ref C) "right" = some none) : Tx K C := ⟨⟨pg, hd, po, sa⟩, n1, n2, n3, n4, n5, n6⟩
structure DefAtL (K : PySem.W.Frag) (mg : Str → Option Value) (x : Str) (st : Stmt) (ps : List Str) (ca : Addr) : Prop where
  ex : ∃ f fd, Fun K x x st f fd ∧ mg x = some (.ref f) ∧ Binds K fd ps [] ∧ fd.code = .ref ca
theorem DefAtL.mk' {K : PySem.W.Frag} {h : Heap} {mg : Str → Option Value} {x : Str} {st : Stmt} {ps : List Str} {f ca : Addr} {od an : Option Addr} {osl : Array (Option Value)} {oc kV doc pm ct : Value}
    (X : K.In h) (G : h.Ns mainGlobals mg) (a : PySem.W.nsIn K mainGlobals x = some (some (.ref f))) (l : K.lookup f = some ⟨oc, od, .func (PySem.W.fnOf x x (defArgs st) (defBody st) (defScope st) .none kV doc pm an (.ref ca) ct), osl⟩)
    (c : PySem.W.codeIn K (.ref ca) x = true) (k : PySem.W.keepIn K (.ref f) = true)
    (b : ∀ (kV doc pm : Value) (an : Option Addr) (cdv ct : Value) (us : List Value), us.length = ps.length → bindArgs (PySem.W.fnOf x x (defArgs st) (defBody st) (defScope st) .none kV doc pm an cdv ct) ⟨us, []⟩ = pure (ps.zip us)) : DefAtL K mg x st ps ca :=
  ⟨f, _, fun_mk l c k, PySem.W.mg_of X G a, (fun_mk l c k).binds b, rfl⟩
theorem DefAtL.cal {P : Program} {w : World} {K : PySem.W.Frag} {mg : Str → Option Value} {base : Heap} {n : Nat} {x : Str} {st : Stmt} {ps N : List Str} {ca : Addr} {sp : Sp} (D : DefAtL K mg x st ps ca) (S : FnScope N ps (defScope st)) (len : ∀ vs H Q E, sp vs H Q E → vs.length = ps.length) (t : XK → TS)
    (der : ∀ (f : Addr) (A : Around) (outer : List Env) (s : Shared) (H : Hp) (E : XK), Room n (A.deeper (envOfC x (defScope st) s.heap.objs.size f (.ref ca))) → PSs (cxOf (L2.CX P w) P w K mg base N x (defScope st) f (.ref ca) A outer s H E) (defBody st) (t E))
    (pure : ∀ vs H Q E, sp vs H Q E → t E { nx := fun _ H' => Q .non H', rt := Q } (start N vs) H) : Cal P w K mg base (n + 1) x ps sp := by
  obtain ⟨f, fd, F, hm, hb, hcode⟩ := D.ex
  refine ⟨f, fd, ⟨len, fun A outer s H args us vs Q E hr e0 hbt r hsp => ?_⟩, hm, F.kp, hb⟩
  obtain ⟨oc, od, kV, doc, pm, an, cdv, ct, osl, rfl, lk, hcd⟩ := F.ex
  obtain rfl : cdv = .ref ca := hcode
  exact run_ofS lk hcd S hr e0 hbt r (len _ _ _ _ hsp) fun hr' => ⟨t E, der _ _ _ _ _ _ hr', pure _ _ _ _ hsp⟩
theorem tab_mk {K : PySem.W.Frag} {x : Str} {f c Pt : Addr} {oc oc2 : Value} {od od2 : Option Addr} {fd : FuncData} {osl osl2 : Array (Option Value)} {vs : Array Value} (a : PySem.W.nsIn K mainGlobals x = some (some (.ref f))) (l : K.lookup f = some ⟨oc, od, .func fd, osl⟩)
    (hc : fd.code = .ref c) (l2 : K.lookup c = some ⟨oc2, od2, .fields vs, osl2⟩) (hv : vs[11]? = some (.ref Pt)) : PySem.W.tabIn K x = some (c, Pt) := by
  unfold PySem.W.tabIn
  rw [a]
  dsimp only
  rw [l]
  dsimp only
  rw [hc]
  dsimp only
  rw [l2]
  dsimp only
  rw [hv]
def sp_lawT (K : PySem.W.Frag) (T : List (Addr × Str)) : Sp := fun vs H Q _ => ∃ (a : Addr) (ns : List Int), vs = [.ref a] ∧ SqL K H a (ns.map V.int) ∧ ns.length ≤ 63 ∧ Tabs T H ∧ ∀ H', Q (.bl true) H'
structure TabW (K : PySem.W.Frag) (mg : Str → Option Value) (h : Heap) (c Pt : Addr) : Prop where
  hd : PySem.W.CodeHd h c Pt
  at_ : h.get? Pt = some { cls := .none, data := .fields #[] }
  no : K.lookup Pt = none
theorem walkT {l : PySem.W.OpenLaw} {k : Nat} {q : Program} {loose : List Str} {XP : (Str → Option Value) → Heap → Prop} {YP : World → Heap → Prop} {d : DefRec} {K : Params → PySem.W.Frag} (hn : l.most = some 63) (hdf : d.params.defaults = []) (hr : Room k callerA)
    (hY : ∀ (w : World) (h : Heap), YP w h → (K w.params).In h)
    (F : ∀ (w : World) (mg mb : Str → Option Value) (fa : Addr) (h : Heap) (mean : ExcName → Option Value), (K w.params).In h → h.Ns mainGlobals mg → mg d.name = some (.ref fa) → XP mg h → PyProof.Rows.Top q (PySem.W.looseW q loose) mean mg mb h →
      ∃ (fd : FuncData) (cs : List (Addr × Addr)) (T : List (Addr × Str)), T.map (·.1) = cs.map (·.2) ∧ (∀ p ∈ cs, TabW (K w.params) mg h p.1 p.2) ∧ (∀ (s : Shared) (u : Value), BindsTo s fd ⟨[u], []⟩ [("_law_script", u)]) ∧
        ∀ base : Heap, (K w.params).In base → base.Ns mainGlobals mg → (∀ p ∈ cs, TabB base mg p.1 p.2) → FnOk l.prog w (K w.params) mg base (L2.CX l.prog w) k fa fd ["_law_script"] (sp_lawT (K w.params) T)) :
    PySem.W.WalkO q loose XP YP l.row.toRowW d [] (fun f vs => PySem.call f vs) := by
  refine Att.attach_callB (n := 63) hn hdf fun w s₀ s₁ mg mb fa o pm cd doc a vs ns G Y ho hd hcd hmg hobj hints hlen hbits hg => ?_
  have KX := hY w _ Y
  obtain ⟨fd, cs, T, hTc, hW, hb, hF⟩ := F w mg mb fa _ _ KX G.T.g hmg G.X G.T
  refine law_callTs (cs := cs) KX G.T.g G.T.b G.T.builtins G.T.nolimit hg (fun p hp => (hW p hp).at_) (fun p hp => (hW p hp).no) (fun p hp => (hW p hp).hd) G.T.bmain hobj hints (Nat.le_trans hlen (by decide)) hr hF hb (fun H hH hS => ⟨a, ns, rfl, hS, hlen, fun p hp => ?_, fun _ => rfl⟩) fun H e s' h => ?_
  · have hm : p.1 ∈ cs.map (·.2) := by rw [← hTc]; exact List.mem_map.mpr ⟨p, hp, rfl⟩
    obtain ⟨r, hr', er⟩ := List.mem_map.mp hm
    exact TabS.nil (by rw [← er]; exact hH r hr')
  · obtain ⟨_, _, _, _, _, _, _, _, _, _, _, _, z⟩ := h
    exact z.elim
theorem law_mkT {P : Program} {w : World} {K : PySem.W.Frag} {h : Heap} {mg : Str → Option Value} {x : Str} {st : Stmt} {f fa : Addr} {od an : Option Addr} {osl : Array (Option Value)} {oc kV doc pm cdv ct : Value} {k : Nat} {cs : List (Addr × Addr)} {T : List (Addr × Str)}
    (X : K.In h) (G : h.Ns mainGlobals mg) (hfa : mg "law" = some (.ref fa)) (a : PySem.W.nsIn K mainGlobals "law" = some (some (.ref f)))
    (l : K.lookup f = some ⟨oc, od, .func (PySem.W.fnOf "law" "law" (defArgs st) (defBody st) (defScope st) .none kV doc pm an cdv ct), osl⟩) (c : PySem.W.codeIn K cdv "law" = true) (kk : PySem.W.keepIn K (.ref f) = true)
    (b : ∀ (s : Shared) (v : Value), BindsTo s (PySem.W.fnOf "law" "law" (defArgs st) (defBody st) (defScope st) .none kV doc pm an cdv ct) ⟨[v], []⟩ [(x, v)]) (hTc : T.map (·.1) = cs.map (·.2)) (hW : ∀ p ∈ cs, TabW K mg h p.1 p.2)
    (run : ∀ (base : Heap) (fd : FuncData), (∀ p ∈ cs, TabB base mg p.1 p.2) → Fun K "law" "law" st fa fd → FnOk P w K mg base (L2.CX P w) k fa fd [x] (sp_lawT K T)) :
    ∃ (fd : FuncData) (cs : List (Addr × Addr)) (T : List (Addr × Str)), T.map (·.1) = cs.map (·.2) ∧ (∀ p ∈ cs, TabW K mg h p.1 p.2) ∧ (∀ (s : Shared) (u : Value), BindsTo s fd ⟨[u], []⟩ [(x, u)]) ∧ ∀ base : Heap, K.In base → base.Ns mainGlobals mg → (∀ p ∈ cs, TabB base mg p.1 p.2) → FnOk P w K mg base (L2.CX P w) k fa fd [x] (sp_lawT K T) := by
  have e := hfa.symm.trans (PySem.W.mg_of X G a)
  cases e
  exact ⟨_, cs, T, hTc, hW, b, fun base _ _ hB => run base _ hB (fun_mk l c kk)⟩
theorem TabW.mk' {q : Program} {loose : List Str} {mean : ExcName → Option Value} {K : PySem.W.Frag} {h : Heap} {mg mb : Str → Option Value} {d : DefRec} {x : Str} {f c Pt : Addr} {oc oc2 : Value} {od od2 : Option Addr} {fd : FuncData} {osl osl2 : Array (Option Value)} {vs : Array Value}
    (TT : PyProof.Rows.Top q loose mean mg mb h) (KX : K.In h) (hr : (recsOf q).find? (fun e => e.name == x) = some d) (a : PySem.W.nsIn K mainGlobals x = some (some (.ref f))) (l : K.lookup f = some ⟨oc, od, .func fd, osl⟩)
    (hc : fd.code = .ref c) (l2 : K.lookup c = some ⟨oc2, od2, .fields vs, osl2⟩) (hv : vs[11]? = some (.ref Pt)) (hn : K.lookup Pt = none) : TabW K mg h c Pt := by
  obtain ⟨h1, h2⟩ := PySem.W.tab_of TT KX hr (tab_mk a l hc l2 hv)
  exact ⟨h1, h2, hn⟩
section
variable {P : Program} {w : World} {K : PySem.W.Frag} {h : Heap} {mg : Str → Option Value} {x : Str} {st : Stmt} {f fa : Addr} {od an : Option Addr} {osl : Array (Option Value)} {oc kV doc pm cdv ct : Value} {k : Nat} {c1 P1 c2 P2 : Addr} {q1 q2 : Str}
theorem law_mkT2 (X : K.In h) (G : h.Ns mainGlobals mg) (hfa : mg "law" = some (.ref fa)) (w1 : TabW K mg h c1 P1) (w2 : TabW K mg h c2 P2) (a : PySem.W.nsIn K mainGlobals "law" = some (some (.ref f)))
    (l : K.lookup f = some ⟨oc, od, .func (PySem.W.fnOf "law" "law" (defArgs st) (defBody st) (defScope st) .none kV doc pm an cdv ct), osl⟩) (c : PySem.W.codeIn K cdv "law" = true) (kk : PySem.W.keepIn K (.ref f) = true)
    (b : ∀ (s : Shared) (v : Value), BindsTo s (PySem.W.fnOf "law" "law" (defArgs st) (defBody st) (defScope st) .none kV doc pm an cdv ct) ⟨[v], []⟩ [(x, v)])
    (run : ∀ (base : Heap) (fd : FuncData), TabB base mg c1 P1 → TabB base mg c2 P2 → Fun K "law" "law" st fa fd → FnOk P w K mg base (L2.CX P w) k fa fd [x] (sp_lawT K [(P1, q1), (P2, q2)])) :
    ∃ (fd : FuncData) (cs : List (Addr × Addr)) (T : List (Addr × Str)), T.map (·.1) = cs.map (·.2) ∧ (∀ p ∈ cs, TabW K mg h p.1 p.2) ∧ (∀ (s : Shared) (u : Value), BindsTo s fd ⟨[u], []⟩ [(x, u)]) ∧ ∀ base : Heap, K.In base → base.Ns mainGlobals mg → (∀ p ∈ cs, TabB base mg p.1 p.2) → FnOk P w K mg base (L2.CX P w) k fa fd [x] (sp_lawT K T) :=
  law_mkT (cs := [(c1, P1), (c2, P2)]) (T := [(P1, q1), (P2, q2)]) X G hfa a l c kk b rfl (fun p hp => by
    rcases List.mem_cons.mp hp with rfl | hp
    · exact w1
    · obtain rfl := List.mem_singleton.mp hp
      exact w2) fun base fd hB F => run base fd (hB (c1, P1) (by simp)) (hB (c2, P2) (by simp)) F
end
end RB
namespace RB
open PySem PySem.Spec PyProof.Rows L2
local macro_rules | `(tactic| walk_at "ev") => `(tactic| try simp only [tSeq, tIfS, tTest, tNot, tAnd, tOr, tB, tOp, tUn, tVar, tC, tRet, tAsg, gName, tNext, tCB, tCons, tNil, tDrop, tRaise, tChain, tChain3, tAndV, tOrV, tNotV, tIf, tCall, tFld_ap, tLc_ap, tLcR_ap, tFor_ap, tForR_ap, tForR2_ap, nTry, nTryAs, tCallS, tKnown, tBM, gSub, tSl, tNoPart, tPart, tLst, tTup, wipe,
  List.getElem?_cons_zero, List.getElem?_cons_succ, List.set_cons_zero, List.set_cons_succ, ex_some, ex_bl, ex_int, List.nil_append, List.cons_append, List.append_nil,
  nAdd_ap, nSub_ap, nLt_ap, nLe_ap, nGt_ap, nGe_ap, nMul_ap, nMulW_ap, nDiv_ap, nMod_ap, nPow_ap, nNeg_ap, nMax_ap, nMin_ap, rEq_ap, rNe_ap, nIs_ap, nIsNot_ap, dec_int_non, dec_ref_non, dec_non_non, ref_non, int_non, non_ref, non_int, isi_int_int, isi_int_bool,
  decide_eq_true_eq, Bool.not_eq_true', decide_eq_false_iff_not, decide_true, decide_false, Bool.not_true, Bool.not_false, ite_tt', ite_ff', Bool.false_eq_true, Bool.true_eq_false, not_true_eq_false, not_false_eq_true, if_true, if_false])
section
variable {K : PySem.W.Frag} {C : Addr}
def sp_joined (C : Addr) : Sp := fun vs H Q _ => ∃ (pa pb : Addr) (a b : T) (o : Int), vs = [.ref pa, .ref pb, .int o] ∧ TreeAt C H pa a ∧ TreeAt C H pb b ∧ 0 ≤ a.many ∧ 0 ≤ b.many ∧ a.many + b.many ≤ 1000000000000 ∧
  ∀ (x : Addr) (H' : Hp), Same H H' → H x = none → TreeAt C H' x (.node (a.many + b.many) (a.tot + b.tot + (a.many + b.many) * o) (min a.low b.low + o) o a b) → Q (.ref x) H'
theorem p_joined (X : Tx K C) (vs : List V) (H : Hp) (Q : VK) (E : XK) (h : sp_joined C vs H Q E) :
    t_joined K C (sp_Tree C) E { nx := fun _ H' => Q .non H', rt := Q } (start ["left", "right", "more", "many", "total"] vs) H := by
  obtain ⟨pa, pb, a, b, o, rfl, ha, hb, a0, b0, hm, q⟩ := h
  obtain ⟨dxa, La, Ra, hpa⟩ := ha.root
  obtain ⟨dxb, Lb, Rb, hpb⟩ := hb.root
  show t_joined K C (sp_Tree C) E _ [some (.ref pa), some (.ref pb), some (.int o), none, none] H
  unfold t_joined
  walk_at "ev"
  simp only [f_many X hpa]
  walk_at "ev"
  simp only [f_many X hpb]
  walk_at "ev"
  simp only [f_total X hpa]
  walk_at "ev"
  simp only [f_total X hpb]
  walk_at "ev"
  refine ⟨.inl ⟨by omega, by omega⟩, ?_⟩
  refine make_tree (m := .int (a.many + b.many)) (t := .int (a.tot + b.tot + (a.many + b.many) * o)) (l := .int (min a.low b.low + o)) (o := .int o) (L := .ref pa) (R := .ref pb) ?_ fun x dx nx s => q x _ s nx ⟨dx, pa, pb, upd_same, ha.same s, hb.same s⟩
  funext q
  walk_at "ev"
  simp only [f_least X hpa]
  walk_at "ev"
  simp only [f_least X hpb]
  walk_at "ev"
def sp_total_in (C : Addr) (n : Nat) : Sp := fun vs H Q _ => ∃ (p : Addr) (t : T) (lo hi : Int), vs = [.ref p, .int lo, .int hi] ∧ TreeAt C H p t ∧ t.Wf ∧ t.ht < n ∧ t.many ≤ 1000000000000 ∧ Q (.int (cut t lo hi).sum) H
theorem no_total_in : ∀ vs H Q E, ¬ sp_total_in C 0 vs H Q E := fun vs H Q E h => by
  obtain ⟨_, t, _, _, _, _, _, h, _⟩ := h
  omega
theorem p_total_in (X : Tx K C) {n : Nat} (vs : List V) (H : Hp) (Q : VK) (E : XK) (h : sp_total_in C (n + 1) vs H Q E) :
    t_total_in K (sp_total_in C n) E { nx := fun _ H' => Q .non H', rt := Q } (start ["tree", "low", "high", "half", "ahead", "behind"] vs) H := by
  obtain ⟨p, t, lo, hi, rfl, hT, wf, hh, hz, q⟩ := h
  show t_total_in K (sp_total_in C n) E _ [some (.ref p), some (.int lo), some (.int hi), none, none, none] H
  unfold t_total_in
  obtain ⟨dx, L, R, hp⟩ := hT.root
  walk_at "ev"
  simp only [f_many X hp]
  walk_at "ev"
  have nn := wf.nn
  split
  · rename_i hc
    rw [cut_none hc] at q
    exact q
  rename_i hc
  simp only [f_many X hp]
  walk_at "ev"
  split
  · rename_i h1
    simp only [f_total X hp]
    rw [cut_whole h1 nn (by omega), cut_tot wf] at q
    exact q
  rename_i h1
  cases t with
  | leaf m t l o =>
    obtain ⟨dx, hp⟩ := hT
    have hc' : ¬ min hi m ≤ max lo 0 := hc
    have hz' : m ≤ 1000000000000 := hz
    have nn' : 0 ≤ m := nn
    simp only [f_left X hp]
    walk_at "ev"
    simp only [f_least X hp]
    walk_at "ev"
    show CMul (min hi m - max lo 0) l ∧ Q (.int ((min hi m - max lo 0) * l)) H
    refine ⟨.inl ⟨by omega, by omega⟩, ?_⟩
    rw [cut_leaf, sum_replicate, show (((min hi m - max lo 0).toNat : Nat) : Int) = min hi m - max lo 0 by omega] at q
    exact q
  | node m t l o a b =>
    obtain ⟨dx, pa, pb, hp, ha, hb⟩ := hT
    obtain ⟨wa, wb, a0, b0, em, et, el⟩ := wf
    have hc' : ¬ min hi m ≤ max lo 0 := hc
    have hz' : m ≤ 1000000000000 := hz
    have hh' : max a.ht b.ht + 1 < n + 1 := hh
    obtain ⟨dxa, La, Ra, hpa⟩ := ha.root
    simp only [f_left X hp]
    walk_at "ev"
    simp only [f_many X hpa, f_left X hp]
    refine ⟨pa, a, _, _, rfl, ha, wa, by omega, by omega, ?_⟩
    walk_at "ev"
    simp only [f_right X hp]
    walk_at "ev"
    refine ⟨pb, b, _, _, rfl, hb, wb, by omega, by omega, ?_⟩
    walk_at "ev"
    simp only [f_more X hp]
    walk_at "ev"
    refine ⟨.inl ⟨by show _ < min hi m - max lo 0; omega, by show min hi m - max lo 0 < _; omega⟩, ?_⟩
    have l1 := cut_len a (max lo 0) (min hi m)
    have l2 := cut_len b (max lo 0 - a.many) (min hi m - a.many)
    rw [cut_node (by omega) (by omega) em, sum_map_add, List.sum_append, List.length_append, l1, l2] at q
    rw [show ((((min (min hi m) a.many - max (max lo 0) 0).toNat + (min (min hi m - a.many) b.many - max (max lo 0 - a.many) 0).toNat : Nat)) : Int) = min hi m - max lo 0 by omega] at q
    exact q
def sp_total (C CO : Addr) (n : Nat) : Sp := fun vs H Q E => ∃ (p : Addr) (t : T) (lo hi : Int), vs = [.ref p, .int lo, .int hi] ∧ TreeAt C H p t ∧ t.Wf ∧ t.ht < n ∧ t.many ≤ 1000000000000 ∧
  ((0 ≤ lo ∧ lo ≤ hi ∧ hi ≤ t.many) → Q (.int (seg t.den lo (hi - lo).toNat).sum) H) ∧ (¬ (0 ≤ lo ∧ lo ≤ hi ∧ hi ≤ t.many) → E (.ref CO) none H)
theorem p_total {CO : Addr} {n : Nat} (vs : List V) (H : Hp) (Q : VK) (E : XK) (h : sp_total C CO n vs H Q E) :
    t_total (sp_check_stretch C CO) (sp_total_in C n) E { nx := fun _ H' => Q .non H', rt := Q } (start ["book", "low", "high"] vs) H := by
  obtain ⟨p, t, lo, hi, rfl, hT, wf, hh, hz, q1, q2⟩ := h
  show t_total (sp_check_stretch C CO) (sp_total_in C n) E _ [some (.ref p), some (.int lo), some (.int hi)] H
  unfold t_total
  walk_at "ev"
  refine ⟨p, t, lo, hi, rfl, hT, fun hc => ⟨p, t, lo, hi, rfl, hT, wf, hh, hz, ?_⟩, q2⟩
  have := q1 hc
  unfold cut
  rw [show max lo 0 = lo by omega, show min hi t.many = hi by omega]
  exact this
def sp_first_in (C : Addr) (n : Nat) : Sp := fun vs H Q _ => ∃ (p : Addr) (t : T) (lo b : Int), vs = [.ref p, .int lo, .int b] ∧ TreeAt C H p t ∧ t.Wf ∧ t.ht < n ∧ (0 < t.many ∨ 0 ≤ lo) ∧ ∀ r, IsFirst t lo b r → Q (optV r) H
theorem no_first_in : ∀ vs H Q E, ¬ sp_first_in C 0 vs H Q E := fun vs H Q E h => by
  obtain ⟨_, t, _, _, _, _, _, h, _⟩ := h
  omega
theorem p_first_in (X : Tx K C) {n : Nat} (vs : List V) (H : Hp) (Q : VK) (E : XK) (h : sp_first_in C (n + 1) vs H Q E) :
    t_first_in K (sp_first_in C n) E { nx := fun _ H' => Q .non H', rt := Q } (start ["tree", "low", "bound", "at", "half"] vs) H := by
  obtain ⟨p, t, lo, b, rfl, hT, wf, hh, hz, q⟩ := h
  show t_first_in K (sp_first_in C n) E _ [some (.ref p), some (.int lo), some (.int b), none, none] H
  unfold t_first_in
  obtain ⟨dx, L, R, hp⟩ := hT.root
  walk_at "ev"
  simp only [f_many X hp]
  walk_at "ev"
  simp only [f_least X hp]
  walk_at "ev"
  have nn := wf.nn
  split
  · exact q none fun i h0 h1 => by omega
  rename_i h1
  split
  · rename_i h2
    exact q none fun i h0 h1 => by
      have := low_le (i := i) wf (by omega) h1
      omega
  rename_i h2
  cases t with
  | leaf m t l o =>
    obtain ⟨dx, hp⟩ := hT
    have h1' : ¬ m ≤ lo := h1
    have h2' : ¬ b < l := h2
    have nn' : 0 ≤ m := nn
    have hz' : 0 < m ∨ 0 ≤ lo := hz
    simp only [f_left X hp]
    walk_at "ev"
    refine q (some (max lo 0)) ⟨Int.le_refl _, ?_, ?_, fun i h0 h1 => by omega⟩
    · show max lo 0 < m
      omega
    · show l ≤ b
      omega
  | node m t l o a c =>
    obtain ⟨dx, pa, pb, hp, ha, hb⟩ := hT
    obtain ⟨wa, wb, a0, b0, em, et, el⟩ := wf
    have h1' : ¬ m ≤ lo := h1
    have h2' : ¬ b < l := h2
    have hh' : max a.ht c.ht + 1 < n + 1 := hh
    obtain ⟨dxa, La, Ra, hpa⟩ := ha.root
    simp only [f_left X hp]
    walk_at "ev"
    simp only [f_more X hp]
    walk_at "ev"
    refine ⟨pa, a, _, _, rfl, ha, wa, by omega, .inl a0, fun r hr => ?_⟩
    have den : ∀ i, (T.node m t l o a c).den i = (if i < a.many then a.den i else c.den (i - a.many)) + o := fun _ => rfl
    cases r with
    | some k =>
      obtain ⟨k1, k2, k3, k4⟩ := hr
      simp only [optV]
      walk_at "ev"
      refine q (some k) ⟨k1, by show k < m; omega, ?_, fun i i0 i1 => ?_⟩
      · rw [den, if_pos k2]
        omega
      · have := k4 i i0 i1
        rw [den, if_pos (by omega)]
        omega
    | none =>
      simp only [optV]
      walk_at "ev"
      simp only [f_left X hp]
      walk_at "ev"
      simp only [f_many X hpa]
      walk_at "ev"
      simp only [f_right X hp]
      walk_at "ev"
      simp only [f_more X hp]
      walk_at "ev"
      refine ⟨pb, c, _, _, rfl, hb, wb, by omega, .inl b0, fun r hr2 => ?_⟩
      have hr' : ∀ i, max lo 0 ≤ i → i < a.many → b - o < a.den i := hr
      cases r with
      | none =>
        simp only [optV]
        walk_at "ev"
        have hr2' : ∀ i, max (lo - a.many) 0 ≤ i → i < c.many → b - o < c.den i := hr2
        refine q none fun i i0 i1 => ?_
        have i1' : i < m := i1
        rw [den]
        split
        · have := hr' i i0 (by omega)
          omega
        · have := hr2' (i - a.many) (by omega) (by omega)
          omega
      | some k =>
        obtain ⟨k1, k2, k3, k4⟩ := hr2
        simp only [optV]
        walk_at "ev"
        refine q (some (a.many + k)) ⟨by omega, by show a.many + k < m; omega, ?_, fun i i0 i1 => ?_⟩
        · rw [den, if_neg (by omega), show a.many + k - a.many = k by omega]
          omega
        · rw [den]
          split
          · have := hr' i i0 (by omega)
            omega
          · have := k4 (i - a.many) (by omega) (by omega)
            omega
def sp_first (C CO : Addr) (n : Nat) : Sp := fun vs H Q E => ∃ (p : Addr) (t : T) (lo b : Int), vs = [.ref p, .int lo, .int b] ∧ TreeAt C H p t ∧ t.Wf ∧ t.ht < n ∧
  ((0 ≤ lo ∧ lo ≤ t.many) → ∀ r, IsFirst t lo b r → Q (optV r) H) ∧ (¬ (0 ≤ lo ∧ lo ≤ t.many) → E (.ref CO) none H)
theorem p_first (X : Tx K C) {CO : Addr} {n : Nat} (vs : List V) (H : Hp) (Q : VK) (E : XK) (h : sp_first C CO n vs H Q E) :
    t_first K (sp_check_stretch C CO) (sp_first_in C n) E { nx := fun _ H' => Q .non H', rt := Q } (start ["book", "low", "bound"] vs) H := by
  obtain ⟨p, t, lo, b, rfl, hT, wf, hh, q1, q2⟩ := h
  obtain ⟨dx, L, R, hp⟩ := hT.root
  show t_first K (sp_check_stretch C CO) (sp_first_in C n) E _ [some (.ref p), some (.int lo), some (.int b)] H
  unfold t_first
  walk_at "ev"
  simp only [f_many X hp]
  refine ⟨p, t, lo, t.many, rfl, hT, fun hc => ⟨p, t, lo, b, rfl, hT, wf, hh, .inr hc.1, fun r hr => q1 ⟨hc.1, hc.2.1⟩ r hr⟩, fun hc => q2 fun z => hc ⟨z.1, z.2, Int.le_refl _⟩⟩
end
end RB
namespace RB
open PySem PySem.Spec PyProof.Rows L2
local macro_rules | `(tactic| walk_at "ev") => `(tactic| try simp only [tSeq, tIfS, tTest, tNot, tAnd, tOr, tB, tOp, tUn, tVar, tC, tRet, tAsg, gName, tNext, tCB, tCons, tNil, tDrop, tRaise, tChain, tChain3, tAndV, tOrV, tNotV, tIf, tCall, tFld_ap, tLc_ap, tLcR_ap, tFor_ap, tForR_ap, tForR2_ap, nTry, nTryAs, tCallS, tKnown, tBM, gSub, tSl, tNoPart, tPart, tLst, tTup, wipe,
  List.getElem?_cons_zero, List.getElem?_cons_succ, List.set_cons_zero, List.set_cons_succ, ex_some, ex_bl, ex_int, List.nil_append, List.cons_append, List.append_nil,
  nAdd_ap, nSub_ap, nLt_ap, nLe_ap, nGt_ap, nGe_ap, nMul_ap, nMulW_ap, nDiv_ap, nMod_ap, nPow_ap, nNeg_ap, nMax_ap, nMin_ap, rEq_ap, rNe_ap, nIs_ap, nIsNot_ap, dec_int_non, dec_ref_non, dec_non_non, ref_non, int_non, non_ref, non_int, isi_int_int, isi_int_bool,
  decide_eq_true_eq, Bool.not_eq_true', decide_eq_false_iff_not, decide_true, decide_false, Bool.not_true, Bool.not_false, ite_tt', ite_ff', Bool.false_eq_true, Bool.true_eq_false, not_true_eq_false, not_false_eq_true, if_true, if_false])
def nLcT (K : PySem.W.Frag) (tt : TT) (elt : TE) (i : Nat) (σ : L2.St) (x : V) (H : Hp) (Q : VK) : Prop := tLc (iTup K (tC x)) (gName i) tt elt [i] σ H Q
theorem tLcT_ap {K : PySem.W.Frag} {te elt : TE} {tt : TT} {i : Nat} {σ : L2.St} {H : Hp} {Q : VK} : tLc (iTup K te) (gName i) tt elt [i] σ H Q = te σ H fun x H1 => nLcT K tt elt i σ x H1 Q := rfl
theorem lc_some {K : PySem.W.Frag} {i : Nat} {σ : L2.St} {H1 : Hp} {Q : VK} {a : Addr} {xs : List (Option Int)} (hi : i < σ.length) (hs : SqT K H1 a (xs.map optV)) (hz : xs.length ≤ 1000)
    (q : ∀ (D : Addr) (H' : Hp), Same H1 H' → H1 D = none → H' D = some (.lst ((xs.filterMap id).map V.int)) → Q (.ref D) H') : nLcT K (tTest (tOp nIsNot (tVar i) (tC .non))) (tVar i) i σ (.ref a) H1 Q := by
  refine ⟨a, rfl, ⟨_, hs⟩, fun D hD => lc_tup (K := K) (a := a) (xs := xs.map optV) (fun k H' => Same H1 H' ∧ H' D = some (.lst (((xs.take k).filterMap id).map V.int))) ?_ ?_ ?_ ?_⟩
  · exact ⟨same_new hD _, upd_same⟩
  · rintro k H' _ ⟨s, _⟩
    rcases hs with (h | ⟨o, h⟩) | h
    · exact .inl (.inl (s _ _ h))
    · exact .inl (.inr ⟨o, s _ _ h⟩)
    · exact .inr h
  · rintro k x H' hx ⟨s, hd⟩
    rw [List.getElem?_map] at hx
    cases ek : xs[k]? with
    | none => rw [ek] at hx; cases hx
    | some z =>
      rw [ek] at hx
      cases hx
      have hk : k < xs.length := (List.getElem?_eq_some_iff.mp ek).1
      refine ⟨wipe_one, ?_⟩
      have hv : ((wipe σ [i]).set i (some (optV z)))[i]? = some (some (optV z)) := List.getElem?_set_self (by simp [wipe, List.length_set, hi])
      refine ⟨optV z, hv, rfl, _, rfl, ?_⟩
      cases z with
      | none =>
        refine iteF ?_
        refine ⟨s, ?_⟩
        rw [take_more ek, List.filterMap_append, hd]
        simp
      | some z =>
        refine iteT ?_
        refine ⟨_, hv, _, hd, ?_, ?_, ?_⟩
        · rw [List.length_map]
          have := List.length_filterMap_le id (xs.take k)
          rw [List.length_take] at this
          exact size_of (by omega)
        · intro b u w
          rw [upd_ne (ne_of_none w hD)]
          exact s b u w
        · rw [upd_same, take_more ek, List.filterMap_append, List.map_append]
          rfl
  · rintro H' ⟨s, hd⟩
    rw [List.length_map, List.take_length] at hd
    exact q D H' s hD hd
def LeastF (f : Int → Int) (lo hi m : Int) : Prop := (∃ i, lo ≤ i ∧ i < hi ∧ f i = m) ∧ ∀ i, lo ≤ i → i < hi → m ≤ f i
def IsLeast (t : T) (lo hi : Int) : Option Int → Prop
  | none => min hi t.many ≤ max lo 0
  | some m => LeastF t.den (max lo 0) (min hi t.many) m
theorem low_is : ∀ {t : T}, t.Wf → 0 < t.many → LeastF t.den 0 t.many t.low
  | .leaf m t l o, _, h => ⟨⟨0, Int.le_refl _, h, rfl⟩, fun _ _ _ => Int.le_refl _⟩
  | .node m t l o a b, w, h => by
    refine ⟨?_, fun i i0 i1 => low_le w i0 i1⟩
    obtain ⟨wa, wb, ha, hb, hm, ht, hl⟩ := w
    obtain ⟨⟨i, i0, i1, ei⟩, _⟩ := low_is wa ha
    obtain ⟨⟨j, j0, j1, ej⟩, _⟩ := low_is wb hb
    have den : ∀ i, (T.node m t l o a b).den i = (if i < a.many then a.den i else b.den (i - a.many)) + o := fun _ => rfl
    show ∃ i, 0 ≤ i ∧ i < m ∧ _ = l
    by_cases z : a.low ≤ b.low
    · refine ⟨i, i0, by omega, ?_⟩
      rw [den, if_pos i1, ei]
      omega
    · refine ⟨a.many + j, by omega, by omega, ?_⟩
      rw [den, if_neg (by omega), show a.many + j - a.many = j by omega, ej]
      omega
section
variable {K : PySem.W.Frag} {C : Addr}
def sp_least_in (C : Addr) (n : Nat) : Sp := fun vs H Q _ => ∃ (p : Addr) (t : T) (lo hi : Int), vs = [.ref p, .int lo, .int hi] ∧ TreeAt C H p t ∧ t.Wf ∧ t.ht < n ∧ ∀ (H' : Hp) (r : Option Int), Same H H' → IsLeast t lo hi r → Q (optV r) H'
theorem no_least_in : ∀ vs H Q E, ¬ sp_least_in C 0 vs H Q E := fun vs H Q E h => by
  obtain ⟨_, t, _, _, _, _, _, h, _⟩ := h
  omega
theorem p_least_in (X : Tx K C) {n : Nat} (vs : List V) (H : Hp) (Q : VK) (E : XK) (h : sp_least_in C (n + 1) vs H Q E) :
    t_least_in K (sp_least_in C n) E { nx := fun _ H' => Q .non H', rt := Q } (start ["tree", "low", "high", "half", "ahead", "behind", "number"] vs) H := by
  obtain ⟨p, t, lo, hi, rfl, hT, wf, hh, q⟩ := h
  show t_least_in K (sp_least_in C n) E _ [some (.ref p), some (.int lo), some (.int hi), none, none, none, none] H
  unfold t_least_in
  obtain ⟨dx, L, R, hp⟩ := hT.root
  walk_at "ev"
  simp only [f_many X hp]
  walk_at "ev"
  have nn := wf.nn
  split
  · rename_i hc
    exact q H none (Same.refl H) hc
  rename_i hc
  have whole : min hi t.many - max lo 0 = t.many → Q (.int t.low) H := fun h => by
    refine q H (some t.low) (Same.refl H) ?_
    have := low_is wf (by omega)
    show LeastF t.den (max lo 0) (min hi t.many) t.low
    rw [show max lo 0 = 0 by omega, show min hi t.many = t.many by omega]
    exact this
  cases t with
  | leaf m t l o =>
    obtain ⟨dx, hp⟩ := hT
    have hc' : ¬ min hi m ≤ max lo 0 := hc
    simp only [f_left X hp]
    walk_at "ev"
    simp only [f_least X hp]
    refine q H (some l) (Same.refl H) ⟨⟨max lo 0, Int.le_refl _, ?_, rfl⟩, fun _ _ _ => Int.le_refl _⟩
    show max lo 0 < min hi m
    omega
  | node m t l o a b =>
    obtain ⟨dx, pa, pb, hp, ha, hb⟩ := hT
    obtain ⟨wa, wb, a0, b0, em, et, el⟩ := wf
    have hc' : ¬ min hi m ≤ max lo 0 := hc
    have hh' : max a.ht b.ht + 1 < n + 1 := hh
    obtain ⟨dxa, La, Ra, hpa⟩ := ha.root
    simp only [f_left X hp]
    walk_at "ev"
    simp only [f_many X hp]
    walk_at "ev"
    split
    · rename_i hw
      simp only [f_least X hp]
      exact whole hw
    simp only [f_left X hp]
    walk_at "ev"
    simp only [f_many X hpa]
    try simp only [f_left X hp]
    walk_at "ev"
    refine ⟨pa, a, _, _, rfl, ha, wa, by omega, fun H1 r1 s1 hr1 => ?_⟩
    have hp1 := s1 _ _ hp
    simp only [f_right X hp1]
    walk_at "ev"
    refine ⟨pb, b, _, _, rfl, hb.same s1, wb, by omega, fun H2 r2 s2 hr2 => ?_⟩
    have hp2 := s2 _ _ hp1
    simp only [tLcT_ap]
    walk_at "ev"
    refine ⟨(by show 2 ≤ sizeLine; decide), fun tp ntp => ?_⟩
    have s3 := same_new ntp (.tup [optV r1, optV r2])
    refine lc_some (xs := [r1, r2]) (by show 6 < 7; decide) (SqT.of upd_same) (by show 2 ≤ 1000; decide) fun D H4 s4 n4 e4 => ?_
    have hp4 := s4 _ _ (s3 _ _ hp2)
    walk_at "ev"
    have den : ∀ i, (T.node m t l o a b).den i = (if i < a.many then a.den i else b.den (i - a.many)) + o := fun _ => rfl
    have fin : ∀ z : Int, LeastF (T.node m t l o a b).den (max lo 0) (min hi m) (z + o) → (nFld K "more" (.ref p) H4 fun y H2 => nAdd (.int z) y H2 Q) := fun z hz => by
      simp only [f_more X hp4]
      walk_at "ev"
      exact q H4 (some (z + o)) (s1.trans (s2.trans (s3.trans s4))) hz
    -- which of the two parts has places
    have ga : ∀ z, LeastF a.den (max (max lo 0) 0) (min (min hi m) a.many) z → ∀ i, max lo 0 ≤ i → i < min hi m → i < a.many → z + o ≤ (T.node m t l o a b).den i := fun z hz i i0 i1 i2 => by
      rw [den, if_pos i2]
      have := hz.2 i (by omega) (by omega)
      omega
    have gb : ∀ z, LeastF b.den (max (max lo 0 - a.many) 0) (min (min hi m - a.many) b.many) z → ∀ i, max lo 0 ≤ i → i < min hi m → ¬ i < a.many → z + o ≤ (T.node m t l o a b).den i := fun z hz i i0 i1 i2 => by
      rw [den, if_neg i2]
      have := hz.2 (i - a.many) (by omega) (by omega)
      omega
    have wa' : ∀ z, LeastF a.den (max (max lo 0) 0) (min (min hi m) a.many) z → ∃ i, max lo 0 ≤ i ∧ i < min hi m ∧ (T.node m t l o a b).den i = z + o := fun z hz => by
      obtain ⟨⟨i, i0, i1, e⟩, _⟩ := hz
      exact ⟨i, by omega, by omega, by rw [den, if_pos (by omega), e]⟩
    have wb' : ∀ z, LeastF b.den (max (max lo 0 - a.many) 0) (min (min hi m - a.many) b.many) z → ∃ i, max lo 0 ≤ i ∧ i < min hi m ∧ (T.node m t l o a b).den i = z + o := fun z hz => by
      obtain ⟨⟨i, i0, i1, e⟩, _⟩ := hz
      exact ⟨i + a.many, by omega, by omega, by rw [den, if_neg (by omega), show i + a.many - a.many = i by omega, e]⟩
    cases r1 with
    | none =>
      have h1 : min (min hi m) a.many ≤ max (max lo 0) 0 := hr1
      cases r2 with
      | none =>
        have h2 : min (min hi m - a.many) b.many ≤ max (max lo 0 - a.many) 0 := hr2
        omega
      | some z =>
        refine ⟨D, [z], rfl, SqL.of e4, (by show 0 < 1; decide), fun w hw hle => ?_⟩
        obtain rfl : w = z := by simpa using hw
        exact fin w ⟨wb' w hr2, fun i i0 i1 => gb w hr2 i i0 i1 (by omega)⟩
    | some y =>
      cases r2 with
      | none =>
        have h2 : min (min hi m - a.many) b.many ≤ max (max lo 0 - a.many) 0 := hr2
        refine ⟨D, [y], rfl, SqL.of e4, (by show 0 < 1; decide), fun w hw hle => ?_⟩
        obtain rfl : w = y := by simpa using hw
        exact fin w ⟨wa' w hr1, fun i i0 i1 => ga w hr1 i i0 i1 (by omega)⟩
      | some z =>
        refine ⟨D, [y, z], rfl, SqL.of e4, (by show 0 < 2; decide), fun w hw hle => ?_⟩
        have hwy := hle y (by simp)
        have hwz := hle z (by simp)
        refine fin w ⟨?_, fun i i0 i1 => ?_⟩
        · rcases List.mem_cons.mp hw with rfl | hw
          · exact wa' w hr1
          · obtain rfl : w = z := by simpa using hw
            exact wb' w hr2
        · by_cases z2 : i < a.many
          · have := ga y hr1 i i0 i1 z2
            omega
          · have := gb z hr2 i i0 i1 z2
            omega
def sp_least (C CO CZ : Addr) (n : Nat) : Sp := fun vs H Q E => ∃ (p : Addr) (t : T) (lo hi : Int), vs = [.ref p, .int lo, .int hi] ∧ TreeAt C H p t ∧ t.Wf ∧ t.ht < n ∧
  ((0 ≤ lo ∧ lo < hi ∧ hi ≤ t.many) → ∀ (H' : Hp) (m : Int), Same H H' → LeastF t.den lo hi m → Q (.int m) H') ∧ (¬ (0 ≤ lo ∧ lo ≤ hi ∧ hi ≤ t.many) → E (.ref CO) none H) ∧ ((0 ≤ lo ∧ lo = hi ∧ hi ≤ t.many) → E (.ref CZ) none H)
theorem p_least {CO CZ : Addr} {n : Nat} (vs : List V) (H : Hp) (Q : VK) (E : XK) (h : sp_least C CO CZ n vs H Q E) :
    t_least CZ (sp_check_stretch C CO) (sp_least_in C n) E { nx := fun _ H' => Q .non H', rt := Q } (start ["book", "low", "high"] vs) H := by
  obtain ⟨p, t, lo, hi, rfl, hT, wf, hh, q1, q2, q3⟩ := h
  show t_least CZ (sp_check_stretch C CO) (sp_least_in C n) E _ [some (.ref p), some (.int lo), some (.int hi)] H
  unfold t_least
  walk_at "ev"
  refine ⟨p, t, lo, hi, rfl, hT, fun hc => ?_, q2⟩
  split
  · exact q3 (by omega)
  · refine ⟨p, t, lo, hi, rfl, hT, wf, hh, fun H' r s hr => ?_⟩
    cases r with
    | none =>
      have : min hi t.many ≤ max lo 0 := hr
      omega
    | some m =>
      have h2 : LeastF t.den (max lo 0) (min hi t.many) m := hr
      rw [show max lo 0 = lo by omega, show min hi t.many = hi by omega] at h2
      exact q1 (by omega) H' m s h2
def PlaceF (f : Int → Int) (lo hi k : Int) : Prop := lo ≤ k ∧ k < hi ∧ (∀ i, lo ≤ i → i < hi → f k ≤ f i) ∧ ∀ i, lo ≤ i → i < k → f k < f i
def sp_place (C CO CZ : Addr) (n : Nat) : Sp := fun vs H Q E => ∃ (p : Addr) (t : T) (lo hi : Int), vs = [.ref p, .int lo, .int hi] ∧ TreeAt C H p t ∧ t.Wf ∧ t.ht < n ∧
  ((0 ≤ lo ∧ lo < hi ∧ hi ≤ t.many) → ∀ (H' : Hp) (k : Int), Same H H' → PlaceF t.den lo hi k → Q (.int k) H') ∧ (¬ (0 ≤ lo ∧ lo ≤ hi ∧ hi ≤ t.many) → E (.ref CO) none H) ∧ ((0 ≤ lo ∧ lo = hi ∧ hi ≤ t.many) → E (.ref CZ) none H)
theorem p_place {CO CZ : Addr} {n : Nat} (vs : List V) (H : Hp) (Q : VK) (E : XK) (h : sp_place C CO CZ n vs H Q E) :
    t_place (sp_least C CO CZ n) (sp_first_in C n) E { nx := fun _ H' => Q .non H', rt := Q } (start ["book", "low", "high"] vs) H := by
  obtain ⟨p, t, lo, hi, rfl, hT, wf, hh, q1, q2, q3⟩ := h
  show t_place (sp_least C CO CZ n) (sp_first_in C n) E _ [some (.ref p), some (.int lo), some (.int hi)] H
  unfold t_place
  walk_at "ev"
  refine ⟨p, t, lo, hi, rfl, hT, wf, hh, fun hc H' m s hm => ?_, q2, q3⟩
  walk_at "ev"
  refine ⟨p, t, lo, m, rfl, hT.same s, wf, hh, .inr hc.1, fun r hr => ?_⟩
  obtain ⟨⟨i, i0, i1, ei⟩, hle⟩ := hm
  cases r with
  | none =>
    have := hr i (by omega) (by omega)
    omega
  | some k =>
    obtain ⟨k0, k1, k2, k3⟩ := hr
    have ki : k ≤ i := by
      by_cases z : i < k
      · have := k3 i (by omega) z
        omega
      · omega
    have e : t.den k = m := by
      have := hle k (by omega) (by omega)
      omega
    exact q1 hc H' k s ⟨by omega, by omega, fun j j0 j1 => by rw [e]; exact hle j j0 j1, fun j j0 j1 => by rw [e]; exact k3 j (by omega) j1⟩
end
end RB
namespace RB
open PySem PySem.Spec PyProof.Rows L2 LamX NdefX
local macro_rules | `(tactic| walk_at "ev") => `(tactic| try simp only [tSeq, tIfS, tTest, tNot, tAnd, tOr, tB, tOp, tUn, tVar, tC, tRet, tAsg, gName, tNext, tCB, tCons, tNil, tDrop, tRaise, tChain, tChain3, tAndV, tOrV, tNotV, tIf, tCall, tFld_ap, tLc_ap, tLcR_ap, tFor_ap, tForR_ap, tForR2_ap, nTry, nTryAs, tCallS, tKnown, tBM, gSub, tSl, tNoPart, tPart, tLst, tTup, wipe,
  List.getElem?_cons_zero, List.getElem?_cons_succ, List.set_cons_zero, List.set_cons_succ, ex_some, ex_bl, ex_int, List.nil_append, List.cons_append, List.append_nil,
  nAdd_ap, nSub_ap, nLt_ap, nLe_ap, nGt_ap, nGe_ap, nMul_ap, nMulW_ap, nDiv_ap, nMod_ap, nPow_ap, nNeg_ap, nMax_ap, nMin_ap, rEq_ap, rNe_ap, nIs_ap, nIsNot_ap, dec_int_non, dec_ref_non, dec_non_non, ref_non, int_non, non_ref, non_int, isi_int_int, isi_int_bool,
  decide_eq_true_eq, Bool.not_eq_true', decide_eq_false_iff_not, decide_true, decide_false, Bool.not_true, Bool.not_false, ite_tt', ite_ff', Bool.false_eq_true, Bool.true_eq_false, not_true_eq_false, not_false_eq_true, if_true, if_false])
section
variable {K : PySem.W.Frag} {C : Addr}
theorem ht_le : ∀ {t : T} {n : Nat}, t.Wf → t.many ≤ 2 ^ n → t.ht ≤ n
  | .leaf _ _ _ _, _, _, _ => Nat.zero_le _
  | .node m t l o a b, n, h, hm => by
    obtain ⟨wa, wb, a0, b0, em, et, el, eh⟩ := h
    have hm' : m ≤ 2 ^ n := hm
    cases n with
    | zero => rw [Int.pow_zero] at hm'; omega
    | succ n =>
      rw [Int.pow_succ] at hm'
      have ha : a.ht ≤ n := ht_le wa (by omega)
      have hb : b.ht ≤ n := ht_le wb (by omega)
      show max a.ht b.ht + 1 ≤ n + 1
      omega
theorem ht_41 {t : T} (h : t.Wf) (hm : t.many ≤ 1000000000000) : t.ht < 41 := by
  have := ht_le (n := 40) h (Int.le_trans hm (by decide))
  omega
def sp_raised (C : Addr) : Sp := fun vs H Q _ => ∃ (p : Addr) (t : T) (b : Int), vs = [.ref p, .int b] ∧ TreeAt C H p t ∧ t.Wf ∧ t.many ≤ 1000000000000 ∧
  ∀ (x : Addr) (H' : Hp) (t' : T), Same H H' → H x = none → TreeAt C H' x t' → t'.Wf → t'.many = t.many → (∀ i, t'.den i = t.den i + b) → Q (.ref x) H'
theorem p_raised (X : Tx K C) (vs : List V) (H : Hp) (Q : VK) (E : XK) (h : sp_raised C vs H Q E) :
    t_raised K (sp_even_tree C) (sp_joined C) E { nx := fun _ H' => Q .non H', rt := Q } (start ["tree", "by"] vs) H := by
  obtain ⟨p, t, b, rfl, hT, wf, hm, q⟩ := h
  show t_raised K (sp_even_tree C) (sp_joined C) E _ [some (.ref p), some (.int b)] H
  unfold t_raised
  cases t with
  | leaf m t l o =>
    obtain ⟨dx, hp⟩ := hT
    obtain ⟨⟨h0, ho⟩, ht⟩ := wf
    walk_at "ev"
    simp only [f_left X hp]
    walk_at "ev"
    simp only [f_many X hp, f_least X hp]
    walk_at "ev"
    exact ⟨m, l + b, rfl, h0, hm, fun x H' s n hx => q x H' _ s n hx ⟨⟨h0, rfl⟩, rfl⟩ rfl fun i => rfl⟩
  | node m t l o a c =>
    obtain ⟨dx, pa, pb, hp, ha, hb⟩ := hT
    obtain ⟨wa, wb, a0, b0, em, et, el, eh⟩ := wf
    have hm' : m ≤ 1000000000000 := hm
    walk_at "ev"
    simp only [f_left X hp]
    walk_at "ev"
    simp only [f_left X hp, f_right X hp, f_more X hp]
    walk_at "ev"
    refine ⟨pa, pb, a, c, o + b, rfl, ha, hb, by omega, by omega, by omega, fun x H' s n hx => q x H' _ s n hx ⟨wa, wb, a0, b0, rfl, rfl, rfl, by omega⟩ em.symm fun i => ?_⟩
    show _ + (o + b) = _ + o + b
    omega
def sp_halves (C : Addr) : Sp := fun vs H Q _ => ∃ (p : Addr) (t : T), vs = [.ref p] ∧ TreeAt C H p t ∧ t.Wf ∧ 2 ≤ t.many ∧ t.many ≤ 1000000000000 ∧
  ∀ (r : Addr) (H' : Hp) (pa pb : Addr) (a b : T), Same H H' → H' r = some (.tup [.ref pa, .ref pb]) → TreeAt C H' pa a → TreeAt C H' pb b → a.Wf → b.Wf → a.many = t.many / 2 → b.many = t.many - t.many / 2 →
    (∀ i, t.den i = (if i < a.many then a.den i else b.den (i - a.many)) + t.more) → Q (.ref r) H'
theorem p_halves (X : Tx K C) (vs : List V) (H : Hp) (Q : VK) (E : XK) (h : sp_halves C vs H Q E) :
    t_halves K (sp_even_tree C) E { nx := fun _ H' => Q .non H', rt := Q } (start ["tree", "half"] vs) H := by
  obtain ⟨p, t, rfl, hT, wf, h2, hm, q⟩ := h
  show t_halves K (sp_even_tree C) E _ [some (.ref p), none] H
  unfold t_halves
  cases t with
  | leaf m t l o =>
    obtain ⟨dx, hp⟩ := hT
    obtain ⟨⟨h0, ho⟩, ht⟩ := wf
    have h2' : 2 ≤ m := h2
    have hm' : m ≤ 1000000000000 := hm
    walk_at "ev"
    simp only [f_left X hp]
    walk_at "ev"
    simp only [f_many X hp]
    walk_at "ev"
    refine ⟨⟨by decide, by decide⟩, ?_⟩
    simp only [f_least X hp]
    walk_at "ev"
    refine ⟨m / 2, l, rfl, by omega, by omega, fun pa H1 s1 n1 ha => ?_⟩
    have hp1 := s1 _ _ hp
    simp only [f_many X hp1]
    walk_at "ev"
    simp only [f_least X hp1]
    refine ⟨m - m / 2, l, rfl, by omega, by omega, fun pb H2 s2 n2 hb => ?_⟩
    refine ⟨by show 2 ≤ sizeLine; decide, fun r n3 => ?_⟩
    have s3 := same_new n3 (.tup [.ref pa, .ref pb])
    refine q r _ pa pb _ _ (s1.trans (s2.trans s3)) upd_same ((ha.same s2).same s3) (hb.same s3) ⟨⟨by omega, rfl⟩, rfl⟩ ⟨⟨by omega, rfl⟩, rfl⟩ rfl rfl fun i => ?_
    show l = (if i < m / 2 then l else l) + o
    rw [ho]
    split <;> omega
  | node m t l o a c =>
    obtain ⟨dx, pa, pb, hp, ha, hb⟩ := hT
    obtain ⟨wa, wb, a0, b0, em, et, el, eh⟩ := wf
    walk_at "ev"
    simp only [f_left X hp]
    walk_at "ev"
    simp only [f_left X hp, f_right X hp]
    walk_at "ev"
    refine ⟨by show 2 ≤ sizeLine; decide, fun r n3 => ?_⟩
    have s3 := same_new n3 (.tup [.ref pa, .ref pb])
    exact q r _ pa pb a c s3 upd_same (ha.same s3) (hb.same s3) wa wb eh (by show c.many = m - m / 2; omega) fun i => rfl
def OpOk (op : Int → Int → Int) : Prop := ∀ v a m, op v (a + m) + m = op (v + m) a
def sp_change (C : Addr) (op : Int → Int → Int) : Sp := fun vs H Q _ => ∃ (p : Addr) (t : T) (ab : Int), vs = [.ref p, .int ab] ∧ TreeAt C H p t ∧ t.Wf ∧ t.many ≤ 1000000000000 ∧
  ∀ (x : Addr) (H' : Hp) (t' : T), Same H H' → TreeAt C H' x t' → t'.Wf → t'.many = t.many → (∀ i, t'.den i = op (t.den i) ab) → Q (.ref x) H'
def sp_ch (C : Addr) (opw : Int → Int → Int → Int) (ws : List (Option V)) : Sp := fun vs H Q E => ∃ b : Int, ws = [some (.int b)] ∧ sp_change C (opw b) vs H Q E
def sp_changed_in (C : Addr) (opw : Int → Int → Int → Int) (f : Addr) (F : LF) (ws : List (Option V)) (n : Nat) : Sp := fun vs H Q _ => ∃ (b : Int) (p : Addr) (t : T) (lo hi ab : Int) (m : Nat), vs = [.ref p, .int lo, .int hi, .int ab, .ref f] ∧ ws = [some (.int b)] ∧ n = m + 1 ∧
  TreeAt C H p t ∧ t.Wf ∧ t.many ≤ 2 ^ m ∧ t.many ≤ 1000000000000 ∧ H F.c = some (CodeO F.c F.q) ∧
  ∀ (x : Addr) (H' : Hp) (t' : T), Same H H' → TreeAt C H' x t' → t'.Wf → t'.many = t.many → (∀ i, 0 ≤ i → i < t.many → t'.den i = if lo ≤ i ∧ i < hi then opw b (t.den i) ab else t.den i) → Q (.ref x) H'
theorem no_changed_in {opw : Int → Int → Int → Int} {f : Addr} {F : LF} {ws : List (Option V)} : ∀ vs H Q E, ¬ sp_changed_in C opw f F ws 0 vs H Q E := fun vs H Q E h => by
  obtain ⟨_, _, _, _, _, _, _, _, _, h, _⟩ := h
  omega
theorem gTup2_ap {p x y : Addr} {i j : Nat} {H : Hp} {σ : L2.St} {Q : L2.St → Hp → Prop} (h : H p = some (.tup [.ref x, .ref y])) (q : Q ((σ.set i (some (.ref x))).set j (some (.ref y))) H) : gTup K 2 (gCons (gName i) (gCons (gName j) gNil)) (.ref p) σ H Q :=
  ⟨p, _, rfl, .inl (Rd.of h), rfl, _, _, rfl, _, _, rfl, rfl, q⟩
theorem p_changed_in (X : Tx K C) {opw : Int → Int → Int → Int} (hop : ∀ b, OpOk (opw b)) {f : Addr} {F : LF} {ws : List (Option V)} {n : Nat} (vs : List V) (H : Hp) (Q : VK) (E : XK) (h : sp_changed_in C opw f F ws (n + 1) vs H Q E) :
    t_changed_in K (sp_halves C) (sp_joined C) (sp_changed_in C opw f F ws n) f F (sp_ch C opw ws) E { nx := fun _ H' => Q .non H', rt := Q } (start ["tree", "low", "high", "above", "change", "left", "right", "half", "ahead", "behind"] vs) H := by
  obtain ⟨b, p, t, lo, hi, ab, m0, rfl, rfl, en, hT, wf, hm, hz, hc, q⟩ := h
  obtain rfl : n = m0 := by omega
  show t_changed_in K (sp_halves C) (sp_joined C) (sp_changed_in C opw f F [some (.int b)] n) f F (sp_ch C opw [some (.int b)]) E _ [some (.ref p), some (.int lo), some (.int hi), some (.int ab), some (.ref f), none, none, none, none, none] H
  unfold t_changed_in
  obtain ⟨dx, L, R, hp⟩ := hT.root
  have nn := wf.nn
  walk_at "ev"
  simp only [f_many X hp]
  walk_at "ev"
  split
  · rename_i h1
    refine q p H t (.refl H) hT wf rfl fun i i0 i1 => ?_
    rw [if_neg (by omega)]
  rename_i h1
  simp only [f_many X hp]
  walk_at "ev"
  split
  · rename_i h2
    refine ⟨rfl, ?_⟩
    walk_at "ev"
    refine ⟨hc, b, rfl, p, t, ab, rfl, hT, wf, hz, fun x H' t' s hx wx mx dx => q x H' t' s hx wx mx fun i i0 i1 => ?_⟩
    rw [if_pos (by omega), dx]
  rename_i h2
  refine ⟨p, t, rfl, hT, wf, by omega, hz, fun r H1 pa pb a c s1 er ha hb wa wb ma mb hd => ?_⟩
  refine gTup2_ap er ?_
  walk_at "ev"
  obtain ⟨dxa, La, Ra, hpa⟩ := ha.root
  have hp1 := s1 _ _ hp
  simp only [f_many X hpa, f_more X hp1]
  walk_at "ev"
  cases n with
  | zero => rw [Int.pow_zero] at hm; omega
  | succ n =>
  rw [Int.pow_succ] at hm
  refine ⟨b, pa, a, _, _, _, n, rfl, rfl, rfl, ha, wa, by omega, by omega, s1 _ _ hc, fun xa H2 a' s2 hxa wa' ma' da' => ?_⟩
  have hp2 := s2 _ _ hp1
  walk_at "ev"
  simp only [f_more X hp2]
  walk_at "ev"
  refine ⟨b, pb, c, _, _, _, n, rfl, rfl, rfl, hb.same s2, wb, by omega, by omega, s2 _ _ (s1 _ _ hc), fun xb H3 c' s3 hxb wb' mb' db' => ?_⟩
  have hp3 := s3 _ _ hp2
  walk_at "ev"
  simp only [f_more X hp3]
  walk_at "ev"
  refine ⟨xa, xb, a', c', t.more, rfl, hxa.same s3, hxb, by omega, by omega, by omega, fun x H4 s4 n4 hx => q x H4 _ (s1.trans (s2.trans (s3.trans s4))) hx ⟨wa', wb', by omega, by omega, rfl, rfl, rfl, by omega⟩ (by show a'.many + c'.many = t.many; omega) fun i i0 i1 => ?_⟩
  show (if i < a'.many then a'.den i else c'.den (i - a'.many)) + t.more = _
  rw [hd i, ma']
  by_cases hi' : i < a.many
  · rw [if_pos hi', if_pos hi', da' i i0 hi']
    by_cases hr : lo ≤ i ∧ i < hi
    · rw [if_pos hr, if_pos (by omega), hop b]
    · rw [if_neg hr, if_neg (by omega)]
  · rw [if_neg hi', if_neg hi', db' (i - a.many) (by omega) (by omega)]
    by_cases hr : lo ≤ i ∧ i < hi
    · rw [if_pos hr, if_pos (by omega), hop b]
    · rw [if_neg hr, if_neg (by omega)]
def updR (op : Int → Int) (lo hi : Int) (f : Int → Int) : Int → Int := fun i => if lo ≤ i ∧ i < hi then op (f i) else f i
def sp_changed (C : Addr) (opw : Int → Int → Int → Int) (f : Addr) (F : LF) (ws : List (Option V)) : Sp := fun vs H Q _ => ∃ (b : Int) (p : Addr) (t : T) (lo hi : Int), vs = [.ref p, .int lo, .int hi, .ref f] ∧ ws = [some (.int b)] ∧
  TreeAt C H p t ∧ t.Wf ∧ t.many ≤ 1000000000000 ∧ H F.c = some (CodeO F.c F.q) ∧
  ∀ (x : Addr) (H' : Hp) (t' : T), Same H H' → TreeAt C H' x t' → t'.Wf → t'.many = t.many → (∀ i, 0 ≤ i → i < t.many → t'.den i = updR (fun v => opw b v 0) lo hi t.den i) → Q (.ref x) H'
theorem p_changed {opw : Int → Int → Int → Int} {f : Addr} {F : LF} {ws : List (Option V)} (vs : List V) (H : Hp) (Q : VK) (E : XK) (h : sp_changed C opw f F ws vs H Q E) :
    t_changed (sp_raised C) (sp_changed_in C opw f F ws 41) E { nx := fun _ H' => Q .non H', rt := Q } (start ["tree", "low", "high", "change"] vs) H := by
  obtain ⟨b, p, t, lo, hi, rfl, rfl, hT, wf, hz, hc, q⟩ := h
  show t_changed (sp_raised C) (sp_changed_in C opw f F [some (.int b)] 41) E _ [some (.ref p), some (.int lo), some (.int hi), some (.ref f)] H
  unfold t_changed
  walk_at "ev"
  split
  · rename_i h1
    refine ⟨p, t, 0, rfl, hT, wf, hz, fun x H' t' s n hx wx mx dx => q x H' t' s hx wx mx fun i i0 i1 => ?_⟩
    unfold updR
    rw [if_neg (by omega), dx, Int.add_zero]
  · exact ⟨b, p, t, lo, hi, 0, 40, rfl, rfl, rfl, hT, wf, Int.le_trans hz (by decide), hz, hc, q⟩
def sp_deed_in (C : Addr) (T : List (Addr × Str)) (opw : Int → Int → Int → Int) : Sp := fun vs H Q _ => ∃ (p : Addr) (t : RB.T) (lo hi b : Int), vs = [.ref p, .int lo, .int hi, .int b] ∧
  TreeAt C H p t ∧ t.Wf ∧ t.many ≤ 1000000000000 ∧ Tabs T H ∧
  ∀ (x : Addr) (H' : Hp) (t' : RB.T), ExtN H H' → Tabs T H' → TreeAt C H' x t' → t'.Wf → t'.many = t.many → (∀ i, 0 ≤ i → i < t.many → t'.den i = updR (fun v => opw b v 0) lo hi t.den i) → Q (.ref x) H'
theorem Ins.extN {H H' : Hp} (e : ExtN H H') : Ins H H' := fun b C dx fs h => e b _ h (by intro ps z; cases z)
theorem p_added_in {T : List (Addr × Str)} {q : Str} {l : Expr} {opw : Int → Int → Int → Int} (vs : List V) (H : Hp) (Q : VK) (E : XK) (h : sp_deed_in C T opw vs H Q E) :
    t_added_in T q l (sp_changed C opw) E { nx := fun _ H' => Q .non H', rt := Q } (start ["tree", "low", "high", "by"] vs) H := by
  obtain ⟨p, t, lo, hi, b, rfl, hT, wf, hz, hTab, qq⟩ := h
  show t_added_in T q l (sp_changed C opw) E _ [some (.ref p), some (.int lo), some (.int hi), some (.int b)] H
  unfold t_added_in tLam3
  walk_at "ev"
  exact ⟨hTab, fun f F H4 _ eN T4 hc => ⟨b, p, t, lo, hi, rfl, rfl, hT.ins (.extN eN), wf, hz, hc, fun x H' t' s hx wx mx dx => qq x H' t' (eN.trans (.of s)) (T4.ext s) hx wx mx dx⟩⟩
theorem p_filled_in {T : List (Addr × Str)} {q : Str} {l : Expr} {opw : Int → Int → Int → Int} (vs : List V) (H : Hp) (Q : VK) (E : XK) (h : sp_deed_in C T opw vs H Q E) :
    t_filled_in T q l (sp_changed C opw) E { nx := fun _ H' => Q .non H', rt := Q } (start ["tree", "low", "high", "number"] vs) H := p_added_in (q := q) (l := l) vs H Q E h
def opAdd : Int → Int → Int → Int := fun b v _ => v + b
def opFill : Int → Int → Int → Int := fun b _ a => b - a
theorem op_add (b : Int) : OpOk (opAdd b) := fun v a m => by unfold opAdd; omega
theorem op_fill (b : Int) : OpOk (opFill b) := fun v a m => by unfold opFill; omega
theorem p_lam_added_in {ws : List (Option V)} (vs : List V) (H : Hp) (Q : VK) (E : XK) (h : sp_ch C opAdd ws vs H Q E) : t_lam_added_in (sp_raised C) E (startF ["part", "above", "by"] vs ws) H Q := by
  obtain ⟨b, rfl, p, t, ab, rfl, hT, wf, hz, q⟩ := h
  show t_lam_added_in (sp_raised C) E [some (.ref p), some (.int ab), some (.int b)] H Q
  unfold t_lam_added_in
  walk_at "ev"
  exact ⟨p, t, b, rfl, hT, wf, hz, fun x H' t' s _ hx wx mx dx => q x H' t' s hx wx mx dx⟩
theorem p_lam_filled_in (X : Tx K C) {ws : List (Option V)} (vs : List V) (H : Hp) (Q : VK) (E : XK) (h : sp_ch C opFill ws vs H Q E) : t_lam_filled_in K (sp_even_tree C) E (startF ["part", "above", "number"] vs ws) H Q := by
  obtain ⟨b, rfl, p, t, ab, rfl, hT, wf, hz, q⟩ := h
  obtain ⟨dx, L, R, hp⟩ := hT.root
  show t_lam_filled_in K (sp_even_tree C) E [some (.ref p), some (.int ab), some (.int b)] H Q
  unfold t_lam_filled_in
  walk_at "ev"
  simp only [f_many X hp]
  walk_at "ev"
  exact ⟨t.many, b - ab, rfl, wf.nn, hz, fun x H' s _ hx => q x H' _ s hx ⟨⟨wf.nn, rfl⟩, rfl⟩ rfl fun i => rfl⟩
theorem len_ch {opw : Int → Int → Int → Int} {ws : List (Option V)} (vs : List V) (H : Hp) (Q : VK) (E : XK) (h : sp_ch C opw ws vs H Q E) : vs.length = 2 := by
  obtain ⟨_, _, _, _, _, rfl, _⟩ := h
  rfl
theorem len_changed_in {opw : Int → Int → Int → Int} {f : Addr} {F : LF} {ws : List (Option V)} {n : Nat} (vs : List V) (H : Hp) (Q : VK) (E : XK) (h : sp_changed_in C opw f F ws n vs H Q E) : vs.length = 5 := by
  obtain ⟨_, _, _, _, _, _, _, rfl, _⟩ := h
  rfl
theorem len_changed {opw : Int → Int → Int → Int} {f : Addr} {F : LF} {ws : List (Option V)} (vs : List V) (H : Hp) (Q : VK) (E : XK) (h : sp_changed C opw f F ws vs H Q E) : vs.length = 4 := by
  obtain ⟨_, _, _, _, _, rfl, _⟩ := h
  rfl
def Bk (C : Addr) (H : Hp) (p : Addr) (m : Int) (f : Int → Int) : Prop := ∃ t : T, TreeAt C H p t ∧ t.Wf ∧ t.many = m ∧ m ≤ 1000000000000 ∧ ∀ i, 0 ≤ i → i < m → t.den i = f i
theorem Bk.ins {H H' : Hp} {p : Addr} {m : Int} {f : Int → Int} (h : Bk C H p m f) (s : Ins H H') : Bk C H' p m f := by
  obtain ⟨t, hT, r⟩ := h
  exact ⟨t, hT.ins s, r⟩
theorem Bk.same {H H' : Hp} {p : Addr} {m : Int} {f : Int → Int} (h : Bk C H p m f) (s : Same H H') : Bk C H' p m f := h.ins (.same s)
theorem Bk.nn {H : Hp} {p : Addr} {m : Int} {f : Int → Int} (h : Bk C H p m f) : 0 ≤ m := by
  obtain ⟨t, _, wf, rfl, _⟩ := h
  exact wf.nn
theorem seg_bk {t : T} {m : Int} {f : Int → Int} (hm : t.many = m) (hd : ∀ i, 0 ≤ i → i < m → t.den i = f i) {lo hi : Int} (h0 : 0 ≤ lo) (h1 : lo ≤ hi) (h2 : hi ≤ m) : seg t.den lo (hi - lo).toNat = seg f lo (hi - lo).toNat :=
  seg_congr fun i hi' => hd _ (by omega) (by omega)
def rowF (xs : List Int) : Int → Int := fun i => xs.getD i.toNat 0
theorem bk_even {H : Hp} {p : Addr} {m v : Int} (hT : TreeAt C H p (.leaf m (m * v) v 0)) (h0 : 0 ≤ m) (h1 : m ≤ 1000000000000) : Bk C H p m (fun _ => v) := ⟨_, hT, ⟨⟨h0, rfl⟩, rfl⟩, rfl, h1, fun _ _ _ => rfl⟩
variable {CO CT CZ : Addr} {H : Hp} {Q : VK} {E : XK} {p : Addr} {m : Int} {f : Int → Int}
theorem bk_total {lo hi : Int} (h : Bk C H p m f) (h0 : 0 ≤ lo) (h1 : lo ≤ hi) (h2 : hi ≤ m) (q : Q (.int (seg f lo (hi - lo).toNat).sum) H) : sp_total C CO 41 [.ref p, .int lo, .int hi] H Q E := by
  obtain ⟨t, hT, wf, hm, hz, hd⟩ := h
  refine ⟨p, t, lo, hi, rfl, hT, wf, ht_41 wf (by omega), by omega, fun _ => ?_, fun z => absurd (show 0 ≤ lo ∧ lo ≤ hi ∧ hi ≤ t.many by omega) z⟩
  rw [seg_bk hm hd h0 h1 h2]
  exact q
theorem bk_listed {lo hi : Int} (h : Bk C H p m f) (h0 : 0 ≤ lo) (h1 : lo ≤ hi) (h2 : hi ≤ m) (h3 : hi - lo ≤ 1000) (q : ∀ (r : Addr) (H' : Hp), Same H H' → H r = none → H' r = some (.lst ((seg f lo (hi - lo).toNat).map V.int)) → Q (.ref r) H') :
    sp_listed C CO CT 41 [.ref p, .int lo, .int hi] H Q E := by
  obtain ⟨t, hT, wf, hm, hz, hd⟩ := h
  refine ⟨p, t, lo, hi, rfl, hT, wf, ht_41 wf (by omega), fun _ r H' s n e => q r H' s n ?_, fun z => absurd (show 0 ≤ lo ∧ lo ≤ hi ∧ hi ≤ t.many by omega) z, fun z => absurd z (by omega)⟩
  rw [e, seg_bk hm hd h0 h1 h2]
def FirstF (f : Int → Int) (lo hi b : Int) : Option Int → Prop
  | none => ∀ i, lo ≤ i → i < hi → b < f i
  | some k => lo ≤ k ∧ k < hi ∧ f k ≤ b ∧ ∀ i, lo ≤ i → i < k → b < f i
theorem bk_first {lo b : Int} (h : Bk C H p m f) (h0 : 0 ≤ lo) (h1 : lo ≤ m) (q : ∀ r, FirstF f lo m b r → Q (optV r) H) : sp_first C CO 41 [.ref p, .int lo, .int b] H Q E := by
  obtain ⟨t, hT, wf, hm, hz, hd⟩ := h
  refine ⟨p, t, lo, b, rfl, hT, wf, ht_41 wf (by omega), fun _ r hr => q r ?_, fun z => absurd (show 0 ≤ lo ∧ lo ≤ t.many by omega) z⟩
  cases r with
  | none =>
    intro i i0 i1
    rw [← hd i (by omega) i1]
    exact hr i (by omega) (by omega)
  | some k =>
    obtain ⟨k1, k2, k3, k4⟩ := hr
    refine ⟨by omega, by omega, by rw [← hd k (by omega) (by omega)]; exact k3, fun i i0 i1 => ?_⟩
    rw [← hd i (by omega) (by omega)]
    exact k4 i (by omega) i1
theorem bk_least {lo hi : Int} (h : Bk C H p m f) (h0 : 0 ≤ lo) (h1 : lo < hi) (h2 : hi ≤ m) (q : ∀ (H' : Hp) (z : Int), Same H H' → LeastF f lo hi z → Q (.int z) H') : sp_least C CO CZ 41 [.ref p, .int lo, .int hi] H Q E := by
  obtain ⟨t, hT, wf, hm, hz, hd⟩ := h
  refine ⟨p, t, lo, hi, rfl, hT, wf, ht_41 wf (by omega), fun _ H' z s hz => q H' z s ?_, fun z => absurd (show 0 ≤ lo ∧ lo ≤ hi ∧ hi ≤ t.many by omega) z, fun z => absurd z (by omega)⟩
  obtain ⟨⟨i, i0, i1, e⟩, ha⟩ := hz
  exact ⟨⟨i, i0, i1, by rw [← hd i (by omega) (by omega)]; exact e⟩, fun i i0 i1 => by rw [← hd i (by omega) (by omega)]; exact ha i i0 i1⟩
theorem bk_place {lo hi : Int} (h : Bk C H p m f) (h0 : 0 ≤ lo) (h1 : lo < hi) (h2 : hi ≤ m) (q : ∀ (H' : Hp) (k : Int), Same H H' → PlaceF f lo hi k → Q (.int k) H') : sp_place C CO CZ 41 [.ref p, .int lo, .int hi] H Q E := by
  obtain ⟨t, hT, wf, hm, hz, hd⟩ := h
  refine ⟨p, t, lo, hi, rfl, hT, wf, ht_41 wf (by omega), fun _ H' z s hz => q H' z s ?_, fun z => absurd (show 0 ≤ lo ∧ lo ≤ hi ∧ hi ≤ t.many by omega) z, fun z => absurd z (by omega)⟩
  obtain ⟨k0, k1, ha, hb⟩ := hz
  have ek := hd z (by omega) (by omega)
  refine ⟨k0, k1, fun i i0 i1 => ?_, fun i i0 i1 => ?_⟩
  · rw [← ek, ← hd i (by omega) (by omega)]
    exact ha i i0 i1
  · rw [← ek, ← hd i (by omega) (by omega)]
    exact hb i i0 i1
def sp_deed (C CO : Addr) (T : List (Addr × Str)) (opw : Int → Int → Int → Int) : Sp := fun vs H Q E => ∃ (p : Addr) (m : Int) (f : Int → Int) (lo hi b : Int), vs = [.ref p, .int lo, .int hi, .int b] ∧ Bk C H p m f ∧ Tabs T H ∧
  ((0 ≤ lo ∧ lo ≤ hi ∧ hi ≤ m) → ∀ (x : Addr) (H' : Hp), ExtN H H' → Tabs T H' → Bk C H' x m (updR (fun v => opw b v 0) lo hi f) → Q (.ref x) H') ∧ (¬ (0 ≤ lo ∧ lo ≤ hi ∧ hi ≤ m) → E (.ref CO) none H)
theorem p_added {T : List (Addr × Str)} {opw : Int → Int → Int → Int} (vs : List V) (H : Hp) (Q : VK) (E : XK) (h : sp_deed C CO T opw vs H Q E) :
    t_added (sp_check_stretch C CO) (sp_deed_in C T opw) E { nx := fun _ H' => Q .non H', rt := Q } (start ["book", "low", "high", "by"] vs) H := by
  obtain ⟨p, m, f, lo, hi, b, rfl, ⟨t, hT, wf, hm, hz, hd⟩, hTab, q1, q2⟩ := h
  show t_added (sp_check_stretch C CO) (sp_deed_in C T opw) E _ [some (.ref p), some (.int lo), some (.int hi), some (.int b)] H
  unfold t_added
  walk_at "ev"
  refine ⟨p, t, lo, hi, rfl, hT, fun hc => ⟨p, t, lo, hi, b, rfl, hT, wf, by omega, hTab, fun x H' t' eN T' hx wx mx dx => q1 (by omega) x H' eN T' ⟨t', hx, wx, by omega, hz, fun i i0 i1 => ?_⟩⟩, fun hc => q2 (by omega)⟩
  rw [dx i i0 (by omega)]
  unfold updR
  rw [hd i i0 i1]
theorem p_filled {T : List (Addr × Str)} {opw : Int → Int → Int → Int} (vs : List V) (H : Hp) (Q : VK) (E : XK) (h : sp_deed C CO T opw vs H Q E) :
    t_filled (sp_check_stretch C CO) (sp_deed_in C T opw) E { nx := fun _ H' => Q .non H', rt := Q } (start ["book", "low", "high", "number"] vs) H := p_added vs H Q E h
theorem bk_deed {T : List (Addr × Str)} {opw : Int → Int → Int → Int} {lo hi b : Int} (h : Bk C H p m f) (hT : Tabs T H) (h0 : 0 ≤ lo) (h1 : lo ≤ hi) (h2 : hi ≤ m) (q : ∀ (x : Addr) (H' : Hp), ExtN H H' → Tabs T H' → Bk C H' x m (updR (fun v => opw b v 0) lo hi f) → Q (.ref x) H') :
    sp_deed C CO T opw [.ref p, .int lo, .int hi, .int b] H Q E := ⟨p, m, f, lo, hi, b, rfl, h, hT, fun _ => q, fun z => absurd ⟨h0, h1, h2⟩ z⟩
end
theorem Tabs.put {T : List (Addr × Str)} {H : Hp} {p : Addr} {xs : List V} (h : Tabs T H) (hp : H p = some (.lst xs)) (ys : List V) : Tabs T (upd H p (.lst ys)) := fun r hr => by
  obtain ⟨ps, h1, h2, h3⟩ := h r hr
  have n1 : r.1 ≠ p := fun z => by rw [z, hp] at h1; cases h1
  refine ⟨ps, by rw [upd_ne n1]; exact h1, h2, fun pos cv hc => ?_⟩
  obtain ⟨c, e1, e2⟩ := h3 pos cv hc
  have n2 : c ≠ p := fun z => by rw [z, hp] at e2; unfold CodeO at e2; cases e2
  exact ⟨c, e1, by rw [upd_ne n2]; exact e2⟩
theorem ExtN.seq {K : PySem.W.Frag} {H H' : Hp} (e : ExtN H H') {p : Addr} {xs : List V} (h : SqL K H p xs) : SqL K H' p xs := by
  rcases h with (h | ⟨o, h⟩) | h
  · exact .inl (.inl (e _ _ h (by intro ps z; cases z)))
  · exact .inl (.inr ⟨o, e _ _ h (by intro ps z; cases z)⟩)
  · exact .inr h
end RB
namespace RB
open PySem PySem.Spec PyProof.Rows L2
local macro_rules | `(tactic| walk_at "ev") => `(tactic| try simp only [tSeq, tIfS, tTest, tNot, tAnd, tOr, tB, tOp, tUn, tVar, tC, tRet, tAsg, gName, tNext, tCB, tCons, tNil, tDrop, tRaise, tChain, tChain3, tAndV, tOrV, tNotV, tIf, tCall, tFld_ap, tLc_ap, tLcR_ap, tFor_ap, tForR_ap, tForR2_ap, nTry, nTryAs, tCallS, tKnown, tBM, gSub, tSl, tNoPart, tPart, tLst, tTup, wipe,
  List.getElem?_cons_zero, List.getElem?_cons_succ, List.set_cons_zero, List.set_cons_succ, ex_some, ex_bl, ex_int, List.nil_append, List.cons_append, List.append_nil,
  nAdd_ap, nSub_ap, nLt_ap, nLe_ap, nGt_ap, nGe_ap, nMul_ap, nMulW_ap, nDiv_ap, nMod_ap, nPow_ap, nNeg_ap, nMax_ap, nMin_ap, rEq_ap, rNe_ap, nIs_ap, nIsNot_ap, dec_int_non, dec_ref_non, dec_non_non, ref_non, int_non, non_ref, non_int, isi_int_int, isi_int_bool,
  decide_eq_true_eq, Bool.not_eq_true', decide_eq_false_iff_not, decide_true, decide_false, Bool.not_true, Bool.not_false, ite_tt', ite_ff', Bool.false_eq_true, Bool.true_eq_false, not_true_eq_false, not_false_eq_true, if_true, if_false])
end RB
namespace RB
open PySem PySem.Spec PyProof.Rows L2 LamX NdefX
local macro_rules | `(tactic| walk_at "ev") => `(tactic| try simp only [tSeq, tIfS, tTest, tNot, tAnd, tOr, tB, tOp, tUn, tVar, tC, tRet, tAsg, gName, tNext, tCB, tCons, tNil, tDrop, tRaise, tChain, tChain3, tAndV, tOrV, tNotV, tIf, tCall, tFld_ap, tLc_ap, tLcR_ap, tFor_ap, tForR_ap, tForR2_ap, nTry, nTryAs, tCallS, tKnown, tBM, gSub, tSl, tNoPart, tPart, tLst, tTup, wipe,
  List.getElem?_cons_zero, List.getElem?_cons_succ, List.set_cons_zero, List.set_cons_succ, ex_some, ex_bl, ex_int, List.nil_append, List.cons_append, List.append_nil,
  nAdd_ap, nSub_ap, nLt_ap, nLe_ap, nGt_ap, nGe_ap, nMul_ap, nMulW_ap, nDiv_ap, nMod_ap, nPow_ap, nNeg_ap, nMax_ap, nMin_ap, rEq_ap, rNe_ap, nIs_ap, nIsNot_ap, dec_int_non, dec_ref_non, dec_non_non, ref_non, int_non, non_ref, non_int, isi_int_int, isi_int_bool,
  decide_eq_true_eq, Bool.not_eq_true', decide_eq_false_iff_not, decide_true, decide_false, Bool.not_true, Bool.not_false, ite_tt', ite_ff', Bool.false_eq_true, Bool.true_eq_false, not_true_eq_false, not_false_eq_true, if_true, if_false])
theorem lst_ap {K : PySem.W.Frag} {i : Nat} {tb : TS} {D : Ends} {σ : L2.St} {H : Hp} {a : Addr} {xs : List V} (hx : SqL K H a xs) (Pv : Nat → L2.St → Hp → Prop) (h0 : Pv 0 σ H) (hl : ∀ k σ' H', k ≤ xs.length → Pv k σ' H' → SqL K H' a xs)
    (hs : ∀ k x σ' H', xs[k]? = some x → Pv k σ' H' → tb { D with nx := Pv (k + 1), ct := Pv (k + 1), bk := D.nx } (σ'.set i (some x)) H') (hd : ∀ σ' H', Pv xs.length σ' H' → D.nx σ' H') : nFor K i tb (.ref a) D σ H :=
  ⟨a, rfl, ⟨_, hx⟩, for_list (K := K) (a := a) (xs := xs) Pv h0 hl hs hd⟩
section
variable {K : PySem.W.Frag} {C CO CZ : Addr}
theorem row_at {xs : List Int} {k : Int} (k0 : 0 ≤ k) (k1 : k < (xs.length : Int)) : (xs.map V.int)[k.toNat]? = some (.int (rowF xs k)) := by
  rw [List.getElem?_map]
  unfold rowF
  rw [List.getD_eq_getElem?_getD, List.getElem?_eq_getElem (by omega)]
  rfl
theorem row_ix {xs : List Int} {ra : Addr} {k : Int} {H' : Hp} {Q' : VK} (hS : SqL K H' ra (xs.map V.int)) (k0 : 0 ≤ k) (k1 : k < (xs.length : Int)) (q : Q' (.int (rowF xs k)) H') : rIxL K (.ref ra) (.int k) H' Q' := by
  have := ixL_ap (j := k.toNat) hS (row_at k0 k1) q
  rw [show ((k.toNat : Nat) : Int) = k by omega] at this
  exact this
theorem place_uniq {f : Int → Int} {lo hi a b : Int} (ha : PlaceF f lo hi a) (hb : PlaceF f lo hi b) : a = b := by
  obtain ⟨a0, a1, a2, a3⟩ := ha
  obtain ⟨b0, b1, b2, b3⟩ := hb
  by_cases h : a < b
  · have := b3 a a0 h
    have := a2 b b0 b1
    omega
  · by_cases h' : b < a
    · have := a3 b b0 h'
      have := b2 a a0 a1
      omega
    · omega
theorem least_place {f : Int → Int} {lo hi a z : Int} (ha : PlaceF f lo hi a) (hz : LeastF f lo hi z) : z = f a := by
  obtain ⟨a0, a1, a2, a3⟩ := ha
  obtain ⟨⟨i, i0, i1, e⟩, hb⟩ := hz
  have := hb a a0 a1
  have := a2 i i0 i1
  omega
end
end RB
namespace RB
open PySem PySem.Spec PyProof.Rows L2 LamX NdefX
local macro_rules | `(tactic| walk_at "ev") => `(tactic| try simp only [tSeq, tIfS, tTest, tNot, tAnd, tOr, tB, tOp, tUn, tVar, tC, tRet, tAsg, gName, tNext, tCB, tCons, tNil, tDrop, tRaise, tChain, tChain3, tAndV, tOrV, tNotV, tIf, tCall, tFld_ap, tLc_ap, tLcR_ap, tFor_ap, tForR_ap, tForR2_ap, nTry, nTryAs, tCallS, tKnown, tBM, gSub, tSl, tNoPart, tPart, tLst, tTup, wipe,
  List.getElem?_cons_zero, List.getElem?_cons_succ, List.set_cons_zero, List.set_cons_succ, ex_some, ex_bl, ex_int, List.nil_append, List.cons_append, List.append_nil,
  nAdd_ap, nSub_ap, nLt_ap, nLe_ap, nGt_ap, nGe_ap, nMul_ap, nMulW_ap, nDiv_ap, nMod_ap, nPow_ap, nNeg_ap, nMax_ap, nMin_ap, rEq_ap, rNe_ap, nIs_ap, nIsNot_ap, dec_int_non, dec_ref_non, dec_non_non, ref_non, int_non, non_ref, non_int, isi_int_int, isi_int_bool,
  decide_eq_true_eq, Bool.not_eq_true', decide_eq_false_iff_not, decide_true, decide_false, Bool.not_true, Bool.not_false, ite_tt', ite_ff', Bool.false_eq_true, Bool.true_eq_false, not_true_eq_false, not_false_eq_true, if_true, if_false])
def KeepS (S : List Addr) (H H' : Hp) : Prop := ∀ x o, H x = some o → x ∉ S → (∀ ps, o ≠ .tbl ps) → H' x = some o
def SL (S : List Addr) (H : Hp) : Prop := ∀ p ∈ S, ∃ xs, H p = some (.lst xs)
section
variable {S : List Addr} {H H1 H2 : Hp} {T : List (Addr × Str)}
theorem KeepS.refl : KeepS S H H := fun _ _ h _ _ => h
theorem KeepS.trans (a : KeepS S H H1) (b : KeepS S H1 H2) : KeepS S H H2 := fun x o h n t => b x o (a x o h n t) n t
theorem KeepS.same (s : Same H H1) : KeepS S H H1 := fun x o h _ _ => s x o h
theorem KeepS.ext (e : ExtN H H1) : KeepS S H H1 := fun x o h _ t => e x o h t
theorem KeepS.put {p : Addr} {o : HO} (hp : p ∈ S) : KeepS S H (upd H p o) := fun x u h n _ => by
  rw [upd_ne (fun z => n (by rw [z]; exact hp))]
  exact h
theorem KeepS.ins (k : KeepS S H H1) (l : SL S H) : Ins H H1 := fun b C dx fs h => k b _ h (fun z => by
  obtain ⟨xs, e⟩ := l b z
  rw [h] at e
  cases e) (by intro ps z; cases z)
theorem KeepS.seq {K : PySem.W.Frag} (k : KeepS S H H1) {p : Addr} {xs : List V} (n : p ∉ S) (h : SqL K H p xs) : SqL K H1 p xs := by
  rcases h with (h | ⟨o, h⟩) | h
  · exact .inl (.inl (k _ _ h n (by intro ps z; cases z)))
  · exact .inl (.inr ⟨o, k _ _ h n (by intro ps z; cases z)⟩)
  · exact .inr h
theorem SL.same (l : SL S H) (s : Same H H1) : SL S H1 := fun p hp => by
  obtain ⟨xs, e⟩ := l p hp
  exact ⟨xs, s _ _ e⟩
theorem SL.ext (l : SL S H) (s : ExtN H H1) : SL S H1 := fun p hp => by
  obtain ⟨xs, e⟩ := l p hp
  exact ⟨xs, s _ _ e (by intro ps z; cases z)⟩
theorem SL.put (l : SL S H) {p : Addr} {ys : List V} : SL S (upd H p (.lst ys)) := fun r hr => by
  by_cases z : r = p
  · exact ⟨ys, by rw [z, upd_same]⟩
  · obtain ⟨xs, e⟩ := l r hr
    exact ⟨xs, by rw [upd_ne z]; exact e⟩
theorem SL.no (l : SL S H) {p : Addr} (h : H p = none) : p ∉ S := fun z => by
  obtain ⟨xs, e⟩ := l p z
  rw [h] at e
  cases e
theorem SL.cons (l : SL S H) {p : Addr} {xs : List V} (h : H p = some (.lst xs)) : SL (p :: S) H := fun r hr => by
  rcases List.mem_cons.mp hr with rfl | hr
  · exact ⟨xs, h⟩
  · exact l r hr
theorem Same.ext (s : Same H H1) : ExtN H H1 := fun b o h _ => s b o h
theorem ext_lst (e : ExtN H H1) {p : Addr} {xs : List V} (h : H p = some (.lst xs)) : H1 p = some (.lst xs) := e _ _ h (by intro ps z; cases z)
end
def Scr (K : PySem.W.Frag) (S : List Addr) (H : Hp) (a : Addr) (xs : List V) : Prop := (Rd H a (.lst xs) ∧ a ∉ S) ∨ ∀ H', SqL K H' a xs
section
variable {K : PySem.W.Frag} {S : List Addr} {H H1 : Hp} {a : Addr} {xs : List V}
theorem Scr.of (h : SqL K H a xs) : Scr K [] H a xs := by
  rcases h with h | h
  · exact .inl ⟨h, by simp⟩
  · exact .inr fun _ => .inr h
theorem Scr.keep (h : Scr K S H a xs) (k : KeepS S H H1) : Scr K S H1 a xs := by
  rcases h with ⟨h | ⟨o, h⟩, n⟩ | h
  · exact .inl ⟨.inl (k _ _ h n (by intro ps z; cases z)), n⟩
  · exact .inl ⟨.inr ⟨o, k _ _ h n (by intro ps z; cases z)⟩, n⟩
  · exact .inr h
theorem Scr.same (h : Scr K S H a xs) (s : Same H H1) : Scr K S H1 a xs := h.keep (.same s)
end
theorem Bk.congr {C : Addr} {H : Hp} {p : Addr} {m : Int} {f g : Int → Int} (h : Bk C H p m f) (e : ∀ i, 0 ≤ i → i < m → f i = g i) : Bk C H p m g := by
  obtain ⟨t, a, b, c, d, hd⟩ := h
  exact ⟨t, a, b, c, d, fun i i0 i1 => (hd i i0 i1).trans (e i i0 i1)⟩
structure Lib (C : Addr) (S : List Addr) (H : Hp) (m : Nat) (bs rs : List Addr) (xss : List (List Int)) : Prop where
  lr : rs.length = bs.length
  lx : xss.length = bs.length
  all : ∀ (i : Nat) (p r : Addr) (xs : List Int), bs[i]? = some p → rs[i]? = some r → xss[i]? = some xs → Bk C H p m (rowF xs) ∧ H r = some (.lst (xs.map V.int)) ∧ r ∉ S ∧ xs.length = m
section
variable {C : Addr} {S : List Addr} {H H1 : Hp} {m : Nat} {bs rs : List Addr} {xss : List (List Int)}
theorem Lib.keep (h : Lib C S H m bs rs xss) (k : KeepS S H H1) (l : SL S H) : Lib C S H1 m bs rs xss := ⟨h.lr, h.lx, fun i p r xs a b c => by
  obtain ⟨h1, h2, h3, h4⟩ := h.all i p r xs a b c
  exact ⟨h1.ins (k.ins l), k _ _ h2 h3 (by intro ps z; cases z), h3, h4⟩⟩
theorem Lib.same (h : Lib C S H m bs rs xss) (s : Same H H1) : Lib C S H1 m bs rs xss := ⟨h.lr, h.lx, fun i p r xs a b c => by
  obtain ⟨h1, h2, h3, h4⟩ := h.all i p r xs a b c
  exact ⟨h1.same s, s _ _ h2, h3, h4⟩⟩
end
structure Ent where
  tp : Addr
  f : Addr
  c : Addr
  zs : List Int
def EntAt (S : List Addr) (H : Hp) (e : Ent) : Prop := H e.tp = some (.tup [.ref e.f, .ref e.c]) ∧ H e.f = some (.lst (e.zs.map V.int)) ∧ H e.c = some (.lst (e.zs.map V.int)) ∧ e.tp ∉ S ∧ e.f ∉ S ∧ e.c ∉ S
theorem EntAt.keep {S : List Addr} {H H' : Hp} {e : Ent} (h : EntAt S H e) (k : KeepS S H H') : EntAt S H' e := by
  obtain ⟨a, b, c, x, y, z⟩ := h
  exact ⟨k _ _ a x (by intro ps z; cases z), k _ _ b y (by intro ps z; cases z), k _ _ c z (by intro ps z; cases z), x, y, z⟩
theorem neD_ints {K : PySem.W.Frag} {H : Hp} {Q : VK} {a b : Addr} {xs : List Int} (h1 : SqL K H a (xs.map V.int)) (h2 : SqL K H b (xs.map V.int)) (q : Q (.bl false) H) : rNeD K (.ref a) (.ref b) H Q := by
  refine ⟨.list (xs.map PyData.int), .list (xs.map PyData.int), .lst h1 (dp_ints xs), .lst h2 (dp_ints xs), PySem.W.ke_shaped_ints xs, PySem.W.ke_shaped_ints xs, ?_⟩
  rw [show PyData.eqv (.list (xs.map PyData.int)) (.list (xs.map PyData.int)) = decide (xs = xs) by rw [PyData.eqv]; exact PySem.W.ked_eqvAll xs xs, decide_eq_true rfl]
  exact q
end RB
namespace RB
open PySem PySem.Spec PyProof.Rows L2 LamX NdefX
local macro_rules | `(tactic| walk_at "ev") => `(tactic| try simp only [tSeq, tIfS, tTest, tNot, tAnd, tOr, tB, tOp, tUn, tVar, tC, tRet, tAsg, gName, tNext, tCB, tCons, tNil, tDrop, tRaise, tChain, tChain3, tAndV, tOrV, tNotV, tIf, tCall, tFld_ap, tLc_ap, tLcR_ap, tFor_ap, tForR_ap, tForR2_ap, nTry, nTryAs, tCallS, tKnown, tBM, gSub, tSl, tNoPart, tPart, tLst, tTup, wipe,
  List.getElem?_cons_zero, List.getElem?_cons_succ, List.set_cons_zero, List.set_cons_succ, ex_some, ex_bl, ex_int, List.nil_append, List.cons_append, List.append_nil,
  nAdd_ap, nSub_ap, nLt_ap, nLe_ap, nGt_ap, nGe_ap, nMul_ap, nMulW_ap, nDiv_ap, nMod_ap, nPow_ap, nNeg_ap, nMax_ap, nMin_ap, rEq_ap, rNe_ap, nIs_ap, nIsNot_ap, dec_int_non, dec_ref_non, dec_non_non, ref_non, int_non, non_ref, non_int, isi_int_int, isi_int_bool,
  decide_eq_true_eq, Bool.not_eq_true', decide_eq_false_iff_not, decide_true, decide_false, Bool.not_true, Bool.not_false, ite_tt', ite_ff', Bool.false_eq_true, Bool.true_eq_false, not_true_eq_false, not_false_eq_true, if_true, if_false])
section
variable {K : PySem.W.Frag} {H : Hp} {Q : VK}
theorem rEqS_ap {a b : Str} : rEq (.str a) (.str b) H Q = Q (.bl (decide (a = b))) H := by simp [rEq, scal]
end
section
variable {K : PySem.W.Frag} {C CO CT CZ : Addr}
def Alike (H : Hp) (x y : V) : Prop := (x = .non ∧ y = .non) ∨ (∃ i, x = .int i ∧ y = .int i) ∨ (∃ s, x = .str s ∧ y = .str s) ∨ ∃ (f r : Addr) (xs : List Int), x = .ref f ∧ y = .ref r ∧ H f = some (.lst (xs.map V.int)) ∧ H r = some (.lst (xs.map V.int)) ∧ xs.length ≤ 100000
theorem first_uniq {f : Int → Int} {lo m b : Int} {r s : Option Int} (hr : FirstF f lo m b r) (hs : FirstF f lo m b s) : r = s := by
  cases r with
  | none =>
    cases s with
    | none => rfl
    | some k =>
      obtain ⟨k0, k1, k2, k3⟩ := hs
      have := hr k k0 k1
      omega
  | some j =>
    obtain ⟨j0, j1, j2, j3⟩ := hr
    cases s with
    | none =>
      have := hs j j0 j1
      omega
    | some k =>
      obtain ⟨k0, k1, k2, k3⟩ := hs
      congr 1
      by_cases h : j < k
      · have := k3 j j0 h
        omega
      · by_cases h' : k < j
        · have := j3 k k0 h'
          omega
        · omega
theorem Alike.int {H : Hp} (i : Int) : Alike H (.int i) (.int i) := .inr (.inl ⟨i, rfl, rfl⟩)
theorem Alike.lst {H : Hp} {p r : Addr} {xs : List Int} (hp : H p = some (.lst (xs.map V.int))) (hr : H r = some (.lst (xs.map V.int))) (hz : xs.length ≤ 100000) : Alike H (.ref p) (.ref r) := .inr (.inr (.inr ⟨p, r, xs, rfl, rfl, hp, hr, hz⟩))
end
end RB
namespace RB
open PySem PySem.Spec PyProof.Rows L2 LamX NdefX
local macro_rules | `(tactic| walk_at "ev") => `(tactic| try simp only [tSeq, tIfS, tTest, tNot, tAnd, tOr, tB, tOp, tUn, tVar, tC, tRet, tAsg, gName, tNext, tCB, tCons, tNil, tDrop, tRaise, tChain, tChain3, tAndV, tOrV, tNotV, tIf, tCall, tFld_ap, tLc_ap, tLcR_ap, tFor_ap, tForR_ap, tForR2_ap, nTry, nTryAs, tCallS, tKnown, tBM, gSub, tSl, tNoPart, tPart, tLst, tTup, wipe,
  List.getElem?_cons_zero, List.getElem?_cons_succ, List.set_cons_zero, List.set_cons_succ, ex_some, ex_bl, ex_int, List.nil_append, List.cons_append, List.append_nil,
  nAdd_ap, nSub_ap, nLt_ap, nLe_ap, nGt_ap, nGe_ap, nMul_ap, nMulW_ap, nDiv_ap, nMod_ap, nPow_ap, nNeg_ap, nMax_ap, nMin_ap, rEq_ap, rNe_ap, nIs_ap, nIsNot_ap, dec_int_non, dec_ref_non, dec_non_non, ref_non, int_non, non_ref, non_int, isi_int_int, isi_int_bool,
  decide_eq_true_eq, Bool.not_eq_true', decide_eq_false_iff_not, decide_true, decide_false, Bool.not_true, Bool.not_false, ite_tt', ite_ff', Bool.false_eq_true, Bool.true_eq_false, not_true_eq_false, not_false_eq_true, if_true, if_false])
structure Rn where
  a : Int
  b : Int
  v : Int
def RunAt (H : Hp) (t : Addr) (r : Rn) : Prop := H t = some (.tup [.int r.a, .int r.b, .int r.v])
structure RT (H : Hp) (ts : List Addr) (rs : List Rn) : Prop where
  len : ts.length = rs.length
  all : ∀ (i : Nat) (t : Addr) (r : Rn), ts[i]? = some t → rs[i]? = some r → RunAt H t r
def RunsAt (H : Hp) (p : Addr) (rs : List Rn) : Prop := ∃ ts : List Addr, H p = some (.lst (ts.map V.ref)) ∧ RT H ts rs
theorem RT.nil {H : Hp} : RT H [] [] := ⟨rfl, fun i t r e => by cases e⟩
theorem RT.keep {H H' : Hp} {ts : List Addr} {rs : List Rn} (h : RT H ts rs) (k : ∀ x o, H x = some o → (∀ ys, o ≠ .lst ys) → (∀ ps, o ≠ .tbl ps) → H' x = some o) : RT H' ts rs := ⟨h.len, fun i t r a b => k _ _ (h.all i t r a b) (by intro ys z; cases z) (by intro ps z; cases z)⟩
def Off (fd : Addr) (H H' : Hp) : Prop := ∀ x o, H x = some o → x ≠ fd → H' x = some o
theorem Off.trans {fd : Addr} {H H1 H2 : Hp} (a : Off fd H H1) (b : Off fd H1 H2) : Off fd H H2 := fun x o e n => b x o (a x o e n) n
theorem Off.of {fd : Addr} {H H1 : Hp} (s : Same H H1) : Off fd H H1 := fun x o e _ => s x o e
theorem Off.put {fd : Addr} {H : Hp} {o : HO} : Off fd H (upd H fd o) := fun x u e n => by rw [upd_ne n]; exact e
theorem RT.off {fd : Addr} {H H' : Hp} {ts : List Addr} {rs : List Rn} {ys : List V} (h : RT H ts rs) (o : Off fd H H') (hf : H fd = some (.lst ys)) : RT H' ts rs := ⟨h.len, fun i t r a b => o _ _ (h.all i t r a b) (fun z => by
  have e := h.all i t r a b
  unfold RunAt at e
  rw [z, hf] at e
  cases e)⟩
theorem RunAt.off {fd : Addr} {H H' : Hp} {t : Addr} {r : Rn} {ys : List V} (h : RunAt H t r) (o : Off fd H H') (hf : H fd = some (.lst ys)) : RunAt H' t r := o _ _ h (fun z => by
  unfold RunAt at h
  rw [z, hf] at h
  cases h)
theorem RunsAt.same {H H' : Hp} {p : Addr} {rs : List Rn} (h : RunsAt H p rs) (s : Same H H') : RunsAt H' p rs := by
  obtain ⟨ts, e, r⟩ := h
  exact ⟨ts, s _ _ e, r.keep fun x o e _ _ => s _ _ e⟩
theorem RunsAt.ext {H H' : Hp} {p : Addr} {rs : List Rn} (h : RunsAt H p rs) (s : ExtN H H') : RunsAt H' p rs := by
  obtain ⟨ts, e, r⟩ := h
  exact ⟨ts, ext_lst s e, r.keep fun x o e _ t => s _ _ e t⟩
section
variable {K : PySem.W.Frag}
def chg1 (op : Int → Int) (lo hi : Int) (r : Rn) : List Rn := if r.a < lo ∨ hi < r.b then [r] else [⟨r.a, r.b, op r.v⟩]
def opOf (w : Str) (z : Int) : Int → Int := if w = "fill" then fun _ => z else fun v => v + z
def Cov (f : Int → Int) : Int → List Rn → Int → Prop
  | lo, [], m => lo = m
  | lo, r :: l, m => r.a = lo ∧ r.a ≤ r.b ∧ (∀ i, r.a ≤ i → i < r.b → f i = r.v) ∧ Cov f r.b l m
theorem Cov.le {f : Int → Int} : ∀ {rs : List Rn} {lo m : Int}, Cov f lo rs m → lo ≤ m
  | [], lo, m, h => by have : lo = m := h; omega
  | r :: l, lo, m, h => by
    obtain ⟨h1, h2, _, h4⟩ := h
    have := h4.le
    omega
theorem Cov.app {f : Int → Int} : ∀ {xs ys : List Rn} {lo m : Int}, Cov f lo (xs ++ ys) m ↔ ∃ c, Cov f lo xs c ∧ Cov f c ys m
  | [], ys, lo, m => ⟨fun h => ⟨lo, rfl, h⟩, fun ⟨c, h1, h2⟩ => by have : lo = c := h1; rw [this]; exact h2⟩
  | r :: l, ys, lo, m => by
    constructor
    · rintro ⟨h1, h2, h3, h4⟩
      obtain ⟨c, a, b⟩ := Cov.app.mp h4
      exact ⟨c, ⟨h1, h2, h3, a⟩, b⟩
    · rintro ⟨c, ⟨h1, h2, h3, h4⟩, b⟩
      exact ⟨h1, h2, h3, Cov.app.mpr ⟨c, h4, b⟩⟩
def NoX (c : Int) (rs : List Rn) : Prop := ∀ r ∈ rs, ¬ (r.a < c ∧ c < r.b)
theorem Cov.map {f : Int → Int} {op : Int → Int} {c d : Int} (hcd : c ≤ d) : ∀ {rs : List Rn} {lo m : Int}, Cov f lo rs m → NoX c rs → NoX d rs → Cov (updR op c d f) lo (rs.flatMap (chg1 op c d)) m
  | [], lo, m, h, _, _ => h
  | r :: l, lo, m, h, hc, hd => by
    obtain ⟨h1, h2, h3, h4⟩ := h
    have ih := h4.map (op := op) hcd (fun x hx => hc x (List.mem_cons_of_mem _ hx)) (fun x hx => hd x (List.mem_cons_of_mem _ hx))
    have xc := hc r List.mem_cons_self
    have xd := hd r List.mem_cons_self
    show Cov _ lo (chg1 op c d r ++ l.flatMap (chg1 op c d)) m
    unfold chg1
    split
    · rename_i z
      refine ⟨h1, h2, fun i i0 i1 => ?_, ih⟩
      unfold updR
      rw [if_neg (by omega)]
      exact h3 i i0 i1
    · rename_i z
      refine ⟨h1, h2, fun i i0 i1 => ?_, ih⟩
      have i0' : r.a ≤ i := i0
      have i1' : i < r.b := i1
      unfold updR
      rw [if_pos (by omega), h3 i i0 i1]
theorem Cov.congr {f g : Int → Int} : ∀ {rs : List Rn} {lo m : Int}, Cov f lo rs m → (∀ i, lo ≤ i → i < m → f i = g i) → Cov g lo rs m
  | [], lo, m, h, _ => h
  | r :: l, lo, m, h, e => by
    obtain ⟨h1, h2, h3, h4⟩ := h
    have := h4.le
    exact ⟨h1, h2, fun i i0 i1 => by rw [← e i (by omega) (by omega)]; exact h3 i i0 i1, h4.congr fun i i0 i1 => e i (by omega) i1⟩
theorem Cov.seg {f : Int → Int} : ∀ {rs : List Rn} {lo m : Int}, Cov f lo rs m → RB.seg f lo (m - lo).toNat = rs.flatMap fun r => List.replicate (r.b - r.a).toNat r.v
  | [], lo, m, h => by
    have : lo = m := h
    rw [show (m - lo).toNat = 0 by omega]
    rfl
  | r :: l, lo, m, h => by
    obtain ⟨h1, h2, h3, h4⟩ := h
    have := h4.le
    rw [List.flatMap_cons, ← h4.seg, show (m - lo).toNat = (r.b - r.a).toNat + (m - r.b).toNat by omega, seg_append, show lo + (((r.b - r.a).toNat : Nat) : Int) = r.b by omega]
    congr 1
    rw [← seg_const r.v lo]
    exact seg_congr fun i hi => h3 _ (by omega) (by omega)
theorem Cov.sum {f : Int → Int} {rs : List Rn} {lo m : Int} (h : Cov f lo rs m) : (RB.seg f lo (m - lo).toNat).sum = (rs.map fun r => (r.b - r.a) * r.v).sum := by
  rw [h.seg]
  have : ∀ (rs : List Rn) (lo : Int), Cov f lo rs m → (rs.flatMap fun r => List.replicate (r.b - r.a).toNat r.v).sum = (rs.map fun r => (r.b - r.a) * r.v).sum := by
    intro rs
    induction rs with
    | nil => intro _ _; rfl
    | cons r l ih =>
      intro lo h
      obtain ⟨h1, h2, h3, h4⟩ := h
      rw [List.flatMap_cons, List.sum_append, List.map_cons, List.sum_cons, sum_replicate, ih _ h4, show (((r.b - r.a).toNat : Nat) : Int) = r.b - r.a by omega]
  exact this rs lo h
end
end RB
namespace RB
open PySem PySem.Spec PyProof.Rows L2 LamX NdefX
local macro_rules | `(tactic| walk_at "ev") => `(tactic| try simp only [tSeq, tIfS, tTest, tNot, tAnd, tOr, tB, tOp, tUn, tVar, tC, tRet, tAsg, gName, tNext, tCB, tCons, tNil, tDrop, tRaise, tChain, tChain3, tAndV, tOrV, tNotV, tIf, tCall, tFld_ap, tLc_ap, tLcR_ap, tFor_ap, tForR_ap, tForR2_ap, nTry, nTryAs, tCallS, tKnown, tBM, gSub, tSl, tNoPart, tPart, tLst, tTup, wipe,
  List.getElem?_cons_zero, List.getElem?_cons_succ, List.set_cons_zero, List.set_cons_succ, ex_some, ex_bl, ex_int, List.nil_append, List.cons_append, List.append_nil,
  nAdd_ap, nSub_ap, nLt_ap, nLe_ap, nGt_ap, nGe_ap, nMul_ap, nMulW_ap, nDiv_ap, nMod_ap, nPow_ap, nNeg_ap, nMax_ap, nMin_ap, rEq_ap, rNe_ap, nIs_ap, nIsNot_ap, dec_int_non, dec_ref_non, dec_non_non, ref_non, int_non, non_ref, non_int, isi_int_int, isi_int_bool,
  decide_eq_true_eq, Bool.not_eq_true', decide_eq_false_iff_not, decide_true, decide_false, Bool.not_true, Bool.not_false, ite_tt', ite_ff', Bool.false_eq_true, Bool.true_eq_false, not_true_eq_false, not_false_eq_true, if_true, if_false])
def nForR3 (i : Nat) (tb : TS) (vs : List V) (D : Ends) (σ : L2.St) (H : Hp) : Prop := tFor (iRng3 fun _ H Q => Q vs H) (gName i) tb D σ H
theorem tForR3_ap {ta : TA} {i : Nat} {tb : TS} {D : Ends} {σ : L2.St} {H : Hp} : tFor (iRng3 ta) (gName i) tb D σ H = ta σ H fun vs H1 => nForR3 i tb vs D σ H1 := rfl
theorem rng3_ap {i : Nat} {tb : TS} {D : Ends} {σ : L2.St} {H : Hp} {lo hi c : Int} {n : Nat} (hR : RgC lo hi c n) (Pv : Nat → L2.St → Hp → Prop) (h0 : Pv 0 σ H)
    (hs : ∀ k σ' H', k < n → Pv k σ' H' → tb { D with nx := Pv (k + 1), ct := Pv (k + 1), bk := D.nx } (σ'.set i (some (.int (lo + (k : Nat) * c)))) H') (hd : ∀ σ' H', Pv n σ' H' → D.nx σ' H') : nForR3 i tb [.int lo, .int hi, .int c] D σ H :=
  ⟨lo, hi, c, n, rfl, hR, for_rangeC (lo := lo) (c := c) (n := n) Pv h0 hs hd⟩
theorem rg23 : ∀ L : Fin 64, 0 ≤ Builtin.Range.rangeSize 2 ((L.val : Int) - 2) 3 ∧ Builtin.Range.small 2 ((L.val : Int) - 2) 3 = true ∧ Builtin.Range.rangeSize 2 ((L.val : Int) - 2) 3 ≤ 21 ∧ ∀ k : Fin 65, k.val < Builtin.Range.rangeSize 2 ((L.val : Int) - 2) 3 → 2 + 3 * k.val + 2 < L.val := by decide +kernel
theorem rg23_ex {L : Nat} (h : L ≤ 63) : ∃ n, RgC 2 ((L : Int) - 2) 3 n ∧ n ≤ 21 ∧ ∀ k, k < n → 2 + 3 * k + 2 < L := by
  obtain ⟨h0, h1, h2, h3⟩ := rg23 ⟨L, by omega⟩
  dsimp only at h0 h1 h2
  exact ⟨(Builtin.Range.rangeSize 2 ((L : Int) - 2) 3).toNat, ⟨by decide, by decide, h1, by have := h0; omega⟩, by omega, fun k hk => h3 ⟨k, by omega⟩ (by show (k : Int) < Builtin.Range.rangeSize 2 ((L : Int) - 2) 3; omega)⟩
theorem cell_ix {K : PySem.W.Frag} {H : Hp} {Q : VK} {a : Addr} {ns : List Int} {k : Nat} (hS : SqL K H a (ns.map V.int)) (hk : k < ns.length) (q : Q (.int (cell ns k)) H) : rIxL K (.ref a) (.int (k : Nat)) H Q := by
  refine ixL_ap hS ?_ q
  rw [List.getElem?_map]
  unfold cell
  rw [List.getD_eq_getElem?_getD, List.getElem?_eq_getElem hk]
  rfl
theorem mod_nat {c m : Int} (h : 0 < m) : ∃ n : Nat, c % m = (n : Nat) ∧ (n : Int) < m := by
  have d0 := Int.emod_nonneg c (show m ≠ 0 by omega)
  have d1 := Int.emod_lt_of_pos c h
  exact ⟨(c % m).toNat, by omega, by omega⟩
theorem op_add_eq (z : Int) : (fun v => opAdd z v 0) = opOf "add" z := by
  unfold opOf
  rw [if_neg (by decide +kernel)]
  rfl
theorem op_fill_eq (z : Int) : (fun v => opFill z v 0) = opOf "fill" z := by
  unfold opOf
  rw [if_pos rfl]
  funext v
  exact Int.sub_zero z
end RB
namespace RB
open PySem PySem.Spec PyProof.Rows L2 LamX NdefX
local macro_rules | `(tactic| walk_at "ev") => `(tactic| try simp only [tSeq, tIfS, tTest, tNot, tAnd, tOr, tB, tOp, tUn, tVar, tC, tRet, tAsg, gName, tNext, tCB, tCons, tNil, tDrop, tRaise, tChain, tChain3, tAndV, tOrV, tNotV, tIf, tCall, tFld_ap, tLc_ap, tLcR_ap, tFor_ap, tForR_ap, tForR2_ap, nTry, nTryAs, tCallS, tKnown, tBM, gSub, tSl, tNoPart, tPart, tLst, tTup, wipe,
  List.getElem?_cons_zero, List.getElem?_cons_succ, List.set_cons_zero, List.set_cons_succ, ex_some, ex_bl, ex_int, List.nil_append, List.cons_append, List.append_nil,
  nAdd_ap, nSub_ap, nLt_ap, nLe_ap, nGt_ap, nGe_ap, nMul_ap, nMulW_ap, nDiv_ap, nMod_ap, nPow_ap, nNeg_ap, nMax_ap, nMin_ap, rEq_ap, rNe_ap, nIs_ap, nIsNot_ap, dec_int_non, dec_ref_non, dec_non_non, ref_non, int_non, non_ref, non_int, isi_int_int, isi_int_bool,
  decide_eq_true_eq, Bool.not_eq_true', decide_eq_false_iff_not, decide_true, decide_false, Bool.not_true, Bool.not_false, ite_tt', ite_ff', Bool.false_eq_true, Bool.true_eq_false, not_true_eq_false, not_false_eq_true, if_true, if_false])
theorem lc_rngT {elt : TE} {i : Nat} {σ : L2.St} {H : Hp} {Q : VK} {n : Int} (P : V → Prop) (h0 : -(2 ^ 62) ≤ n) (hz : n ≤ 16000000)
    (he : ∀ (j : Nat) (H' : Hp) (Q' : VK), (j : Int) < n → Same H H' → (∀ y, P y → Q' y H') → elt ((wipe σ [i]).set i (some (.int j))) H' Q')
    (q : ∀ (D : Addr) (H' : Hp) (ys : List V), Same H H' → H D = none → H' D = some (.lst ys) → ys.length = n.toNat → (∀ y ∈ ys, P y) → Q (.ref D) H') : nLcR elt i σ [.int n] H Q := by
  refine ⟨n, rfl, h0, by omega, fun D hD => lc_range (lo := 0) (n := n.toNat) (fun k H' => Same H H' ∧ ∃ ys : List V, H' D = some (.lst ys) ∧ ys.length = k ∧ ∀ y ∈ ys, P y) ?_ ?_ ?_⟩
  · exact ⟨same_new hD _, [], upd_same, rfl, by intro y hy; cases hy⟩
  · rintro k H' hk ⟨s, ys, hd, hl, hp⟩
    rw [show (0 : Int) + (k : Int) = (k : Int) by omega]
    refine ⟨wipe_one, ?_⟩
    simp only [tYes, if_true]
    refine he k H' _ (by omega) s fun y py => ⟨_, hd, size_of (by omega), ?_, ys ++ [y], upd_same, by rw [List.length_append, List.length_singleton, hl], fun z hz' => ?_⟩
    · intro b u z
      rw [upd_ne (ne_of_none z hD)]
      exact s b u z
    · rcases List.mem_append.mp hz' with hz' | hz'
      · exact hp z hz'
      · obtain rfl := List.mem_singleton.mp hz'
        exact py
  · rintro H' ⟨s, ys, hd, hl, hp⟩
    exact q D H' ys s hD hd hl hp
section
variable {K : PySem.W.Frag} {C CO CT CZ CN : Addr} {T : List (Addr × Str)}
def sp_l_end_by13 (K : PySem.W.Frag) : Sp := fun vs H Q _ => ∃ (c : Int) (p : Addr) (xs : List Int) (m : Int), vs = [.int c, .ref p, .int m] ∧ SqL K H p (xs.map V.int) ∧ 0 < xs.length ∧ 0 ≤ m ∧ ∀ z, 0 ≤ z → z ≤ m → Q (.int z) H
theorem p_l_end_by13 (vs : List V) (H : Hp) (Q : VK) (E : XK) (h : sp_l_end_by13 K vs H Q E) : t_l_end_by13 K E { nx := fun _ H' => Q .non H', rt := Q } (start ["_law_cell", "_law_ends", "_law_many", "_law_at"] vs) H := by
  obtain ⟨c, p, xs, m, rfl, hS, hl, hm, q⟩ := h
  show t_l_end_by13 K E _ [some (.int c), some (.ref p), some (.int m), none] H
  have fin : ∀ z : Int, Q (.int (min (max z 0) m)) H := fun z => q _ (by omega) (by omega)
  obtain ⟨j, ej, hj⟩ := mod_nat (c := c / 4) (show (0 : Int) < (xs.length : Int) by omega)
  unfold t_l_end_by13
  walk_at "ev"
  have go : (CDiv c 4 ∧ nLen K [.ref p] H fun y H2 => nMod (.int (c / 4)) y H2 fun y H2 => rIxL K (.ref p) y H2 fun x H1 => CDiv c 64 ∧ 0 < (3 : Int) ∧ nAdd x (.int (c / 64 % 3)) H1 fun x H1 => nSub x (.int 1) H1 fun x H1 => nMax [x, .int 0] H1 fun x H1 => nMin [x, .int m] H1 Q) := by
    refine ⟨⟨by decide, by decide⟩, ?_⟩
    refine nLen_ap hS ?_
    rw [List.length_map]
    walk_at "ev"
    refine ⟨by omega, ?_⟩
    rw [ej]
    refine row_ix hS (by omega) (by omega) ?_
    walk_at "ev"
    exact ⟨⟨by decide, by decide⟩, by decide, fin _⟩
  refine ⟨⟨by decide, by decide⟩, .inr ⟨by decide, by decide⟩, by omega, by decide, ?_⟩
  split
  · exact go
  · refine ⟨by decide, ?_⟩
    split
    · exact go
    · exact fin _
def lmin : List Int → Option Int → Option Int
  | [], o => o
  | x :: l, none => lmin l (some x)
  | x :: l, some y => lmin l (some (if x < y then x else y))
theorem lmin_some : ∀ {l : List Int} {y : Int}, ∃ v, lmin l (some y) = some v ∧ (v = y ∨ v ∈ l) ∧ v ≤ y ∧ ∀ x ∈ l, v ≤ x
  | [], y => ⟨y, rfl, .inl rfl, Int.le_refl _, by intro x hx; cases hx⟩
  | x :: l, y => by
    obtain ⟨v, e, hm, h1, h2⟩ := lmin_some (l := l) (y := if x < y then x else y)
    refine ⟨v, e, ?_, ?_, fun z hz => ?_⟩
    · rcases hm with hm | hm
      · by_cases hc : x < y
        · rw [if_pos hc] at hm
          rw [hm]
          exact .inr List.mem_cons_self
        · rw [if_neg hc] at hm
          exact .inl hm
      · exact .inr (List.mem_cons_of_mem _ hm)
    · by_cases hc : x < y
      · rw [if_pos hc] at h1
        omega
      · rw [if_neg hc] at h1
        exact h1
    · rcases List.mem_cons.mp hz with rfl | hz
      · by_cases hc : z < y
        · rw [if_pos hc] at h1
          exact h1
        · rw [if_neg hc] at h1
          omega
      · exact h2 z hz
theorem lmin_snoc (x : Int) : ∀ (l : List Int) (o : Option Int), lmin (l ++ [x]) o = match lmin l o with | none => some x | some y => some (if x < y then x else y)
  | [], none => rfl
  | [], some y => rfl
  | z :: l, none => lmin_snoc x l _
  | z :: l, some y => lmin_snoc x l _
def LS (f : Int → Int) (lo hi : Int) (ys : List Int) : Prop := (∀ y ∈ ys, ∃ i, lo ≤ i ∧ i < hi ∧ f i = y) ∧ ∀ i, lo ≤ i → i < hi → ∃ y ∈ ys, y ≤ f i
theorem LS.app {f : Int → Int} {a b c : Int} {xs ys : List Int} (hab : a ≤ b) (hbc : b ≤ c) (h1 : LS f a b xs) (h2 : LS f b c ys) : LS f a c (xs ++ ys) := by
  refine ⟨fun y hy => ?_, fun i i0 i1 => ?_⟩
  · rcases List.mem_append.mp hy with hy | hy
    · obtain ⟨i, i0, i1, e⟩ := h1.1 y hy
      exact ⟨i, i0, by omega, e⟩
    · obtain ⟨i, i0, i1, e⟩ := h2.1 y hy
      exact ⟨i, by omega, i1, e⟩
  · by_cases z : i < b
    · obtain ⟨y, hy, e⟩ := h1.2 i i0 z
      exact ⟨y, List.mem_append_left _ hy, e⟩
    · obtain ⟨y, hy, e⟩ := h2.2 i (by omega) i1
      exact ⟨y, List.mem_append_right _ hy, e⟩
theorem LS.perm {f : Int → Int} {a b : Int} {xs ys : List Int} (h : LS f a b xs) (e : ∀ y, y ∈ xs ↔ y ∈ ys) : LS f a b ys := ⟨fun y hy => h.1 y ((e y).mpr hy), fun i i0 i1 => by
  obtain ⟨y, hy, z⟩ := h.2 i i0 i1
  exact ⟨y, (e y).mp hy, z⟩⟩
theorem LS.congr {f g : Int → Int} {a b : Int} {xs : List Int} (h : LS f a b xs) (e : ∀ i, a ≤ i → i < b → f i = g i) : LS g a b xs := ⟨fun y hy => by
  obtain ⟨i, i0, i1, z⟩ := h.1 y hy
  exact ⟨i, i0, i1, by rw [← e i i0 i1]; exact z⟩, fun i i0 i1 => by rw [← e i i0 i1]; exact h.2 i i0 i1⟩
theorem LS.least {f : Int → Int} {a b z : Int} {xs : List Int} (h : LS f a b xs) (hl : LeastF f a b z) : lmin xs none = some z := by
  obtain ⟨⟨i, i0, i1, e⟩, hz⟩ := hl
  obtain ⟨y, hy, _⟩ := h.2 i i0 i1
  cases xs with
  | nil => cases hy
  | cons x l =>
    obtain ⟨v, ev, hm, h1, h2⟩ := lmin_some (l := l) (y := x)
    have all : ∀ u ∈ x :: l, v ≤ u := fun u hu => by
      rcases List.mem_cons.mp hu with rfl | hu
      · exact h1
      · exact h2 u hu
    have mem : v ∈ x :: l := by
      rcases hm with rfl | hm
      · exact List.mem_cons_self
      · exact List.mem_cons_of_mem _ hm
    obtain ⟨j, j0, j1, ej⟩ := h.1 v mem
    have g1 := hz j j0 j1
    obtain ⟨u, hu, gu⟩ := h.2 i i0 i1
    have g2 := all u hu
    show lmin l (some x) = some z
    rw [ev]
    congr 1
    omega
theorem LS.none {f : Int → Int} {a b : Int} (h : b ≤ a) : LS f a b [] := ⟨fun y hy => absurd hy (by simp), fun i i0 i1 => by omega⟩
theorem LeastF.ls {f : Int → Int} {a b z : Int} (h : LeastF f a b z) : LS f a b [z] := by
  obtain ⟨⟨i, i0, i1, e⟩, hz⟩ := h
  refine ⟨fun y hy => ?_, fun j j0 j1 => ⟨z, by simp, hz j j0 j1⟩⟩
  obtain rfl := List.mem_singleton.mp hy
  exact ⟨i, i0, i1, e⟩
def sp_l_least_of (K : PySem.W.Frag) : Sp := fun vs H Q _ => ∃ (p : Addr) (xs : List Int), vs = [.ref p] ∧ SqL K H p (xs.map V.int) ∧ Q (optV (lmin xs none)) H
theorem p_l_least_of (vs : List V) (H : Hp) (Q : VK) (E : XK) (h : sp_l_least_of K vs H Q E) : t_l_least_of K sp_l_whole E { nx := fun _ H' => Q .non H', rt := Q } (start ["_law_some", "_law_found", "_law_one"] vs) H := by
  obtain ⟨p, xs, rfl, hS, q⟩ := h
  show t_l_least_of K sp_l_whole E _ [some (.ref p), none, none] H
  unfold t_l_least_of
  walk_at "ev"
  refine lst_ap hS (fun k σ H' => H' = H ∧ ∃ o2, σ = [some (.ref p), some (optV (lmin (xs.take k) none)), o2]) ⟨rfl, _, rfl⟩ (fun k σ H' _ h => by rw [h.1]; exact hS) ?_ ?_
  · rintro k x σ H' hx ⟨rfl, o2, rfl⟩
    rw [List.getElem?_map] at hx
    cases ez : xs[k]? with
    | none => rw [ez] at hx; cases hx
    | some z =>
      rw [ez] at hx
      cases hx
      have es := lmin_snoc z (xs.take k) none
      rw [← take_more ez] at es
      walk_at "ev"
      simp only [l_whole_ap]
      walk_at "ev"
      cases e : lmin (xs.take k) none with
      | none =>
        rw [e] at es
        simp only [optV]
        walk_at "ev"
        exact ⟨trivial, _, by rw [es]⟩
      | some y =>
        rw [e] at es
        dsimp only at es
        simp only [optV]
        walk_at "ev"
        split
        · rename_i hc
          rw [if_pos hc] at es
          exact ⟨trivial, _, by rw [es]⟩
        · rename_i hc
          rw [if_neg hc] at es
          exact ⟨trivial, _, by rw [es]⟩
  · rintro σ H' ⟨rfl, o2, rfl⟩
    rw [List.length_map, List.take_length]
    walk_at "ev"
    exact q
theorem opt_least {b fd : Addr} {m lo hi : Int} {f : Int → Int} {xs : List Int} {H : Hp} {E : XK} {G : Hp → Prop} (hB : Bk C H b m f) (hf : H fd = some (.lst (xs.map V.int))) (hx : xs.length ≤ 10) (h0 : 0 ≤ lo) (h1 : lo ≤ hi) (h2 : hi ≤ m)
    (k : ∀ (H' : Hp) (ys : List Int), Off fd H H' → H' fd = some (.lst ((xs ++ ys).map V.int)) → LS f lo hi ys → ys.length ≤ 1 → G H') :
    if lo < hi then (tyV K "list" (.ref fd) H ∧ sp_least C CO CZ 41 [.ref b, .int lo, .int hi] H (fun v H' => rAppend (.ref fd) [v] H' fun _ H'' => G H'') E) else G H := by
  split
  · rename_i hlt
    refine ⟨ty_lst hf, bk_least hB h0 hlt h2 fun H1 z s1 hz => ?_⟩
    refine app_ap (s1 _ _ hf) (by rw [List.length_map]; omega) ?_
    exact k _ [z] ((Off.of s1).trans .put) (by rw [upd_same, List.map_append]; rfl) hz.ls (by simp)
  · rename_i hlt
    exact k H [] (fun x o e _ => e) (by rw [List.append_nil]; exact hf) (.none (by omega)) (by simp)
theorem Bk.off {fd : Addr} {H H' : Hp} {b : Addr} {m : Int} {f : Int → Int} {ys : List V} (h : Bk C H b m f) (o : Off fd H H') (hf : H fd = some (.lst ys)) : Bk C H' b m f := h.ins fun x D dx fs e => o _ _ e (fun z => by rw [z, hf] at e; cases e)
theorem seg_cut {f : Int → Int} {a b c : Int} (h1 : a ≤ b) (h2 : b ≤ c) : seg f a (c - a).toNat = seg f a (b - a).toNat ++ seg f b (c - b).toNat := by
  rw [show (c - a).toNat = (b - a).toNat + (c - b).toNat by omega, seg_append, show a + (((b - a).toNat : Nat) : Int) = b by omega]
theorem sum_cut {f : Int → Int} {a b c : Int} (h1 : a ≤ b) (h2 : b ≤ c) : (seg f a (c - a).toNat).sum = (seg f a (b - a).toNat).sum + (seg f b (c - b).toNat).sum := by
  rw [seg_cut h1 h2, List.sum_append]
theorem sum_eq {f g : Int → Int} {a b : Int} (e : ∀ i, a ≤ i → i < b → f i = g i) : (seg f a (b - a).toNat).sum = (seg g a (b - a).toNat).sum := by
  rw [seg_congr (b := a) fun i hi => e _ (by omega) (by omega)]
def sp_l_changed13 (C : Addr) : Sp := fun vs H Q _ => ∃ (b0 b1 d : Addr) (m : Int) (f : Int → Int) (w : Str) (dl dh z s e : Int), vs = [.ref b0, .ref b1, .str w, .ref d, .int s, .int e] ∧ Bk C H b0 m f ∧ Bk C H b1 m (updR (opOf w z) dl dh f) ∧ (w = "add" ∨ w = "fill") ∧ H d = some (.tup [.int dl, .int dh, .int z]) ∧
  m ≤ 1000000000000 ∧ 0 ≤ dl ∧ dl ≤ dh ∧ dh ≤ m ∧ 0 ≤ s ∧ s ≤ e ∧ e ≤ m ∧ ∀ H', Same H H' → Q (.bl true) H'
theorem p_l_changed13 (vs : List V) (H : Hp) (Q : VK) (E : XK) (h : sp_l_changed13 C vs H Q E) :
    t_l_changed13 K (sp_total C CO 41) (sp_least C CO CZ 41) sp_l_whole (sp_l_least_of K) E { nx := fun _ H' => Q .non H', rt := Q }
      (start ["_law_ahead", "_law_book", "_law_word", "_law_deed", "_law_begin", "_law_ending", "_law_low", "_law_high", "_law_wide", "_law_due", "_law_some", "_law_found"] vs) H := by
  obtain ⟨b0, b1, d, m, f, w, dl, dh, z, s, e, rfl, hB0, hB1, hw, hd, hm, a0, a1, a2, h0, h1, h2, q⟩ := h
  show t_l_changed13 K (sp_total C CO 41) (sp_least C CO CZ 41) sp_l_whole (sp_l_least_of K) E _ [some (.ref b0), some (.ref b1), some (.str w), some (.ref d), some (.int s), some (.int e), none, none, none, none, none, none] H
  unfold t_l_changed13
  walk_at "ev"
  refine ixT_ap (j := 0) (SqT.of hd) rfl ?_
  walk_at "ev"
  refine ixT_ap (j := 1) (SqT.of hd) rfl ?_
  walk_at "ev"
  generalize el : min (max s dl) e = l
  generalize eh : max l (min e dh) = h
  have g1 : s ≤ l := by omega
  have g2 : l ≤ h := by omega
  have g3 : h ≤ e := by omega
  have out1 : ∀ i, s ≤ i → i < l → updR (opOf w z) dl dh f i = f i := fun i i0 i1 => by
    unfold updR
    rw [if_neg (by omega)]
  have out2 : ∀ i, h ≤ i → i < e → updR (opOf w z) dl dh f i = f i := fun i i0 i1 => by
    unfold updR
    rw [if_neg (by omega)]
  have mid : ∀ i, l ≤ i → i < h → updR (opOf w z) dl dh f i = opOf w z (f i) := fun i i0 i1 => by
    unfold updR
    rw [if_pos (by omega)]
  refine bk_total hB0 h0 g1 (by omega) ?_
  refine bk_total hB0 (by omega) g3 (by omega) ?_
  walk_at "ev"
  refine ⟨Nat.zero_le _, fun fd nf => ?_⟩
  have s0 := same_new nf (.lst [])
  have hf0 : (upd H fd (.lst [])) fd = some (.lst (([] : List Int).map V.int)) := upd_same
  have B00 := hB0.same s0
  have B10 := hB1.same s0
  have hd0 := s0 _ _ hd
  have off : ∀ H', Off fd (upd H fd (.lst [])) H' → Same H H' := fun H' o x u e' => o _ _ (s0 _ _ e') (fun y => by rw [y, nf] at e'; cases e')
  generalize upd H fd (.lst []) = H0 at hf0 B00 B10 hd0 off
  try walk_at "ev"
  refine opt_least B00 hf0 (by simp) h0 g1 (by omega) fun H1 ys1 o1 hf1 ls1 l1 => ?_
  rw [List.nil_append] at hf1
  try walk_at "ev"
  refine opt_least (B00.off o1 hf0) hf1 (by omega) (by omega) g3 (by omega) fun H2 ys2 o2 hf2 ls2 l2 => ?_
  have o12 := o1.trans o2
  have B02 := B00.off o12 hf0
  have B12 := B10.off o12 hf0
  have hd2 : H2 d = some (.tup [.int dl, .int dh, .int z]) := o12 _ _ hd0 (fun y => by rw [y, hf0] at hd0; cases hd0)
  have LS12 : ∀ ys3, LS (updR (opOf w z) dl dh f) l h ys3 → LS (updR (opOf w z) dl dh f) s e ((ys1 ++ ys2) ++ ys3) := fun ys3 h3 =>
    (((ls1.congr fun i i0 i1 => (out1 i i0 i1).symm).app g1 g2 h3).app (by omega) g3 (ls2.congr fun i i0 i1 => (out2 i i0 i1).symm)).perm fun y => by
      simp only [List.mem_append]
      constructor
      · rintro ((h | h) | h)
        · exact .inl (.inl h)
        · exact .inr h
        · exact .inl (.inr h)
      · rintro ((h | h) | h)
        · exact .inl (.inl h)
        · exact .inr h
        · exact .inl (.inr h)
  -- the end: the sum, the least one
  have fin : ∀ (H3 : Hp) (ys3 : List Int) (due : Int), Off fd H0 H3 → H3 fd = some (.lst (((ys1 ++ ys2) ++ ys3).map V.int)) → LS (updR (opOf w z) dl dh f) l h ys3 → due = (seg (updR (opOf w z) dl dh f) s (e - s).toNat).sum →
      sp_total C CO 41 [.ref b1, .int s, .int e] H3 (fun x H4 => sp_l_whole [x] H4 (fun y H5 => ∃ c, y = .bl c ∧ (if c = false then Q (.bl false) H5 else rNe x (.int due) H5 fun y' H6 => ∃ c', y' = .bl c' ∧ (if c' = true then Q (.bl false) H6 else
        if s = e then Q (.bl true) H6 else sp_least C CO CZ 41 [.ref b1, .int s, .int e] H6 (fun x1 H7 => sp_l_least_of K [.ref fd] H7 (fun y1 H8 => rEq x1 y1 H8 fun v H9 => Q v H9) E) E))) E) E := fun H3 ys3 due o3 hf3 ls3 ed => by
    have B3 := B10.off o3 hf0
    refine bk_total B3 h0 h1 h2 ?_
    simp only [l_whole_ap]
    refine ⟨true, rfl, ?_⟩
    rw [if_neg (by decide), ← ed, rNe_ap]
    refine ⟨_, rfl, ?_⟩
    rw [if_neg (by simp)]
    split
    · exact q _ (off _ o3)
    · rename_i hse
      refine bk_least B3 h0 (by omega) h2 fun H7 x s7 hx => ?_
      refine ⟨fd, _, rfl, SqL.of (s7 _ _ hf3), ?_⟩
      rw [(LS12 ys3 ls3).least hx]
      simp only [optV, rEq_ap, decide_true]
      exact q _ ((off _ o3).trans s7)
  have split3 : (seg (updR (opOf w z) dl dh f) s (e - s).toNat).sum = (seg f s (l - s).toNat).sum + (seg (updR (opOf w z) dl dh f) l (h - l).toNat).sum + (seg f h (e - h).toNat).sum := by
    rw [sum_cut g1 (show l ≤ e by omega), sum_cut g2 g3, sum_eq out1, sum_eq out2]
    omega
  simp only [rEqS_ap]
  walk_at "ev"
  split
  · rename_i hwa
    have op : ∀ v, opOf w z v = v + z := fun v => by
      unfold opOf
      rw [if_neg (by rw [hwa]; decide +kernel)]
    refine bk_total B02 (by omega) g2 (by omega) ?_
    walk_at "ev"
    refine ixT_ap (j := 2) (SqT.of hd2) rfl ?_
    walk_at "ev"
    refine ⟨.inl ⟨by omega, by omega⟩, ?_⟩
    have es : (seg f s (l - s).toNat).sum + (seg f h (e - h).toNat).sum + (seg f l (h - l).toNat).sum + (h - l) * z = (seg (updR (opOf w z) dl dh f) s (e - s).toNat).sum := by
      rw [split3]
      have e1 : (seg (updR (opOf w z) dl dh f) l (h - l).toNat).sum = (seg f l (h - l).toNat).sum + (h - l) * z := by
        rw [sum_eq (g := fun i => f i + z) fun i i0 i1 => by rw [mid i i0 i1, op], ← seg_map (fun v => v + z) f l, sum_map_add, seg_length, show (((h - l).toNat : Nat) : Int) = h - l by omega]
      rw [e1]
      omega
    split
    · rename_i hlt
      refine ⟨ty_lst hf2, bk_least B02 (by omega) hlt (by omega) fun H3 x s3 hx => ?_⟩
      refine ixT_ap (j := 2) (SqT.of (s3 _ _ hd2)) rfl ?_
      walk_at "ev"
      refine app_ap (s3 _ _ hf2) (by rw [List.length_map, List.length_append]; omega) ?_
      refine fin _ [x + z] _ (o12.trans ((Off.of s3).trans .put)) (by rw [upd_same, List.map_append (l₁ := ys1 ++ ys2)]; rfl) ?_ es
      obtain ⟨⟨i, i0, i1, ei⟩, hz⟩ := hx
      refine LeastF.ls ⟨⟨i, i0, i1, by rw [mid i i0 i1, op, ei]⟩, fun i i0 i1 => ?_⟩
      rw [mid i i0 i1, op]
      have := hz i i0 i1
      omega
    · rename_i hlt
      exact fin _ [] _ o12 (by rw [List.append_nil]; exact hf2) (.none (by omega)) es
  · rename_i hwa
    have hwf : w = "fill" := hw.resolve_left hwa
    have op : ∀ v, opOf w z v = z := fun v => by
      unfold opOf
      rw [if_pos hwf]
    refine ixT_ap (j := 2) (SqT.of hd2) rfl ?_
    walk_at "ev"
    refine ⟨.inl ⟨by omega, by omega⟩, ?_⟩
    have es : (seg f s (l - s).toNat).sum + (seg f h (e - h).toNat).sum + (h - l) * z = (seg (updR (opOf w z) dl dh f) s (e - s).toNat).sum := by
      rw [split3]
      have e1 : (seg (updR (opOf w z) dl dh f) l (h - l).toNat).sum = (h - l) * z := by
        rw [sum_eq (g := fun _ => z) fun i i0 i1 => by rw [mid i i0 i1, op], seg_const, sum_replicate, show (((h - l).toNat : Nat) : Int) = h - l by omega]
      rw [e1]
      omega
    split
    · rename_i hlt
      refine ⟨ty_lst hf2, ?_⟩
      refine ixT_ap (j := 2) (SqT.of hd2) rfl ?_
      refine app_ap hf2 (by rw [List.length_map, List.length_append]; omega) ?_
      refine fin _ [z] _ (o12.trans .put) (by rw [upd_same, List.map_append (l₁ := ys1 ++ ys2)]; rfl) ?_ es
      refine LeastF.ls ⟨⟨l, Int.le_refl _, hlt, by rw [mid l (Int.le_refl _) hlt, op]⟩, fun i i0 i1 => ?_⟩
      rw [mid i i0 i1, op]
      exact Int.le_refl _
    · rename_i hlt
      exact fin _ [] _ o12 (by rw [List.append_nil]; exact hf2) (.none (by omega)) es
def sp_l_cut13 (C : Addr) : Sp := fun vs H Q _ => ∃ (b : Addr) (m : Int) (f : Int → Int) (s c e : Int), vs = [.ref b, .int s, .int c, .int e] ∧ Bk C H b m f ∧ 0 ≤ s ∧ s ≤ c ∧ c ≤ e ∧ e ≤ m ∧ ∀ H', Same H H' → Q (.bl true) H'
theorem p_l_cut13 (vs : List V) (H : Hp) (Q : VK) (E : XK) (h : sp_l_cut13 C vs H Q E) :
    t_l_cut13 K (sp_total C CO 41) (sp_least C CO CZ 41) (sp_place C CO CZ 41) sp_l_whole (sp_l_least_of K) (sp_listed C CO CT 41) E { nx := fun _ H' => Q .non H', rt := Q }
      (start ["_law_book", "_law_begin", "_law_cut_here", "_law_ending", "_law_some", "_law_found", "_law_at"] vs) H := by
  obtain ⟨b, m, f, s, c, e, rfl, hB, h0, g1, g2, h2, q⟩ := h
  show t_l_cut13 K (sp_total C CO 41) (sp_least C CO CZ 41) (sp_place C CO CZ 41) sp_l_whole (sp_l_least_of K) (sp_listed C CO CT 41) E _ [some (.ref b), some (.int s), some (.int c), some (.int e), none, none, none] H
  unfold t_l_cut13
  walk_at "ev"
  refine bk_total hB h0 g1 (by omega) ?_
  refine bk_total hB (by omega) g2 h2 ?_
  walk_at "ev"
  refine bk_total hB h0 (by omega) h2 ?_
  rw [← sum_cut g1 g2]
  walk_at "ev"
  try rw [if_neg (by simp)]
  unfold t_l_cut13_1
  walk_at "ev"
  split
  · exact q _ (.refl H)
  rename_i hse
  unfold t_l_cut13_2
  walk_at "ev"
  refine ⟨Nat.zero_le _, fun fd nf => ?_⟩
  have s0 := same_new nf (.lst [])
  have hf0 : (upd H fd (.lst [])) fd = some (.lst (([] : List Int).map V.int)) := upd_same
  have B0 := hB.same s0
  have off : ∀ H', Off fd (upd H fd (.lst [])) H' → Same H H' := fun H' o x u e' => o _ _ (s0 _ _ e') (fun y => by rw [y, nf] at e'; cases e')
  generalize upd H fd (.lst []) = H0 at hf0 B0 off
  unfold t_l_cut13_3
  walk_at "ev"
  refine opt_least B0 hf0 (by simp) h0 g1 (by omega) fun H1 ys1 o1 hf1 ls1 l1 => ?_
  rw [List.nil_append] at hf1
  unfold t_l_cut13_4
  walk_at "ev"
  refine opt_least (B0.off o1 hf0) hf1 (by omega) (by omega) g2 h2 fun H2 ys2 o2 hf2 ls2 l2 => ?_
  have o12 := o1.trans o2
  have B2 := B0.off o12 hf0
  unfold t_l_cut13_5
  walk_at "ev"
  refine bk_least B2 h0 (by omega) h2 fun H3 x s3 hx => ?_
  unfold t_l_cut13_6
  walk_at "ev"
  refine bk_place (B2.same s3) h0 (by omega) h2 fun H4 a s4 ha => ?_
  have ex := least_place ha hx
  have sA := s3.trans s4
  unfold t_l_cut13_7
  walk_at "ev"
  simp only [l_whole_ap]
  walk_at "ev"
  refine ⟨fd, _, rfl, SqL.of (sA _ _ hf2), ?_⟩
  rw [(ls1.app g1 g2 ls2).least hx]
  simp only [optV]
  walk_at "ev"
  have a0 := ha.1
  have a1 := ha.2.1
  rw [if_neg (show ¬ a < s by omega), if_neg (show ¬ e ≤ a by omega)]
  have hB4 := B2.same sA
  unfold t_l_cut13_8
  walk_at "ev"
  refine bk_listed hB4 (by omega) (by omega) (by omega) (by omega) fun r H5 s5 n5 e5 => ?_
  refine ⟨by show 1 ≤ sizeLine; decide, fun r2 n6 => ?_⟩
  have s6 := same_new n6 (.lst [.int x])
  have e1 : seg f a (a + 1 - a).toNat = [x] := by
    rw [show (a + 1 - a).toNat = 1 by omega, ex]
    show [f (a + ((0 : Nat) : Int))] = [f a]
    rw [show a + ((0 : Nat) : Int) = a by omega]
  rw [e1] at e5
  refine neD_ints (xs := [x]) (SqL.of (s6 _ _ e5)) (SqL.of upd_same) ?_
  walk_at "ev"
  have sB := s5.trans s6
  refine bk_total (hB4.same sB) (by omega) (by omega) (by omega) ?_
  rw [e1, show [x].sum = x by simp]
  walk_at "ev"
  try rw [if_neg (by simp)]
  unfold t_l_cut13_9
  walk_at "ev"
  have fin : ∀ H', Same H4 H' → Q (.bl true) H' := fun H' s' => q _ (off _ (o12.trans (Off.of (sA.trans s'))))
  split
  · exact fin _ sB
  · rename_i hne
    refine bk_least (hB4.same sB) h0 (by omega) (by omega) fun H7 y s7 hy => ?_
    obtain ⟨⟨i, i0, i1, ei⟩, _⟩ := hy
    have := ha.2.2.2 i i0 i1
    walk_at "ev"
    rw [decide_eq_true (show x < y by omega)]
    exact fin _ (sB.trans s7)
def sp_l_first13 (C : Addr) : Sp := fun vs H Q _ => ∃ (b : Addr) (m : Int) (f : Int → Int) (lo bd : Int), vs = [.ref b, .int m, .int lo, .int bd] ∧ Bk C H b m f ∧ 0 ≤ lo ∧ lo ≤ m ∧ ∀ H', Same H H' → Q (.bl true) H'
theorem p_l_first13 (vs : List V) (H : Hp) (Q : VK) (E : XK) (h : sp_l_first13 C vs H Q E) :
    t_l_first13 (sp_first C CO 41) (sp_least C CO CZ 41) sp_l_whole E { nx := fun _ H' => Q .non H', rt := Q } (start ["_law_book", "_law_many", "_law_low", "_law_bound", "_law_at"] vs) H := by
  obtain ⟨b, m, f, lo, bd, rfl, hB, h0, h1, q⟩ := h
  show t_l_first13 (sp_first C CO 41) (sp_least C CO CZ 41) sp_l_whole E _ [some (.ref b), some (.int m), some (.int lo), some (.int bd), none] H
  unfold t_l_first13
  walk_at "ev"
  refine bk_first hB h0 h1 fun r hr => ?_
  cases r with
  | none =>
    simp only [optV]
    walk_at "ev"
    split
    · exact q _ (.refl H)
    · refine bk_least hB h0 (by omega) (Int.le_refl _) fun H1 y s1 hy => ?_
      obtain ⟨⟨i, i0, i1, ei⟩, _⟩ := hy
      have := hr i i0 i1
      walk_at "ev"
      rw [decide_eq_true (show bd < y by omega)]
      exact q _ s1
  | some k =>
    obtain ⟨k0, k1, k2, k3⟩ := hr
    simp only [optV]
    walk_at "ev"
    simp only [l_whole_ap]
    walk_at "ev"
    rw [if_neg (show ¬ k < lo by omega), if_neg (show ¬ m ≤ k by omega)]
    refine bk_least hB (by omega) (by omega) (by omega) fun H1 y s1 hy => ?_
    obtain ⟨⟨i, i0, i1, ei⟩, _⟩ := hy
    have ek : i = k := by omega
    rw [ek] at ei
    walk_at "ev"
    rw [if_neg (show ¬ bd < y by omega)]
    try walk_at "ev"
    split
    · exact q _ s1
    · refine bk_least (hB.same s1) h0 (by omega) (by omega) fun H2 z s2 hz => ?_
      obtain ⟨⟨j, j0, j1, ej⟩, _⟩ := hz
      have := k3 j j0 j1
      walk_at "ev"
      rw [decide_eq_true (show bd < z by omega)]
      exact q _ (s1.trans s2)
def HeldIs (f : Int → Int) (m lo hi bd : Int) (p : Addr) (H : Hp) : Prop := ∃ (x : Option Int) (r : Option Int), H p = some (.tup [optV x, optV r]) ∧ FirstF f lo m bd r ∧ (lo = hi ∧ x = none ∨ ∃ a, lo < hi ∧ PlaceF f lo hi a ∧ x = some a)
def sp_l_held (C : Addr) : Sp := fun vs H Q _ => ∃ (b : Addr) (m : Int) (f : Int → Int) (lo hi bd : Int), vs = [.ref b, .int lo, .int hi, .int bd] ∧ Bk C H b m f ∧ 0 ≤ lo ∧ lo ≤ hi ∧ hi ≤ m ∧ ∀ p H', Same H H' → HeldIs f m lo hi bd p H' → Q (.ref p) H'
theorem p_l_held (vs : List V) (H : Hp) (Q : VK) (E : XK) (h : sp_l_held C vs H Q E) :
    t_l_held (sp_first C CO 41) (sp_place C CO CZ 41) E { nx := fun _ H' => Q .non H', rt := Q } (start ["_law_book", "_law_low", "_law_high", "_law_bound"] vs) H := by
  obtain ⟨b, m, f, lo, hi, bd, rfl, hB, h0, h1, h2, q⟩ := h
  show t_l_held (sp_first C CO 41) (sp_place C CO CZ 41) E _ [some (.ref b), some (.int lo), some (.int hi), some (.int bd)] H
  unfold t_l_held
  walk_at "ev"
  split
  · rename_i e
    try walk_at "ev"
    refine bk_first hB h0 (by omega) fun r hr => ?_
    exact ⟨by show 2 ≤ sizeLine; decide, fun p np => q p _ (same_new np _) ⟨none, r, upd_same, hr, .inl ⟨e, rfl⟩⟩⟩
  · rename_i e
    try walk_at "ev"
    refine bk_place hB h0 (by omega) h2 fun H1 a s1 ha => ?_
    try walk_at "ev"
    refine bk_first (hB.same s1) h0 (by omega) fun r hr => ?_
    exact ⟨by show 2 ≤ sizeLine; decide, fun p np => q p _ (s1.trans (same_new np _)) ⟨some a, r, upd_same, hr, .inr ⟨a, by omega, ha, rfl⟩⟩⟩
theorem neD_held {H : Hp} {Q : VK} {p r : Addr} {x y : Option Int} (h1 : H p = some (.tup [optV x, optV y])) (h2 : H r = some (.tup [optV x, optV y])) (q : Q (.bl false) H) : rNeD K (.ref p) (.ref r) H Q := by
  have dp : ∀ o : Option Int, Dp K H (optV o) (match o with | none => .none | some i => .int i) := fun o => by
    cases o with
    | none => exact .non
    | some i => exact .int i
  refine ⟨.tuple [_, _], .tuple [_, _], .tup (SqT.of h1) (.cons (dp x) (.cons (dp y) .nil)), .tup (SqT.of h2) (.cons (dp x) (.cons (dp y) .nil)), ?_, ?_, ?_⟩
  · cases x <;> cases y <;> simp [SeqAt.shaped, PyData.canLay0, PyData.canLayAll0, PyData.depth, PyData.depthAll]
  · cases x <;> cases y <;> simp [SeqAt.shaped, PyData.canLay0, PyData.canLayAll0, PyData.depth, PyData.depthAll]
  · rw [show PyData.eqv (.tuple [_, _]) (.tuple [_, _]) = true by cases x <;> cases y <;> simp [PyData.eqv, PyData.eqvAll]]
    exact q
theorem held_same {f : Int → Int} {m lo hi bd : Int} {p r : Addr} {H H' : Hp} (h1 : HeldIs f m lo hi bd p H) (s : ∀ o, H p = some o → H' p = some o) (h2 : HeldIs f m lo hi bd r H') : ∃ x y : Option Int, H' p = some (.tup [optV x, optV y]) ∧ H' r = some (.tup [optV x, optV y]) := by
  obtain ⟨x, y, e, hy, hx⟩ := h1
  obtain ⟨x', y', e', hy', hx'⟩ := h2
  have g1 : x = x' := by
    rcases hx with ⟨z, rfl⟩ | ⟨a, z, ha, rfl⟩ <;> rcases hx' with ⟨z', rfl⟩ | ⟨a', z', ha', rfl⟩
    · rfl
    · omega
    · omega
    · rw [place_uniq ha ha']
  have g2 : y = y' := first_uniq hy hy'
  subst g1 g2
  exact ⟨x, y, s _ e, e'⟩
structure S13 (K : PySem.W.Frag) (C : Addr) (T : List (Addr × Str)) (H : Hp) (a b en : Addr) (ns : List Int) (m : Int) (f : Int → Int) (es : List Int) : Prop where
  book : Bk C H b m f
  ends : H en = some (.lst (es.map V.int))
  ne : 0 < es.length
  scr : SqL K H a (ns.map V.int)
  tab : Tabs T H
theorem S13.same {H H' : Hp} {a b en : Addr} {ns : List Int} {m : Int} {f : Int → Int} {es : List Int} (S : S13 K C T H a b en ns m f es) (s : Same H H') : S13 K C T H' a b en ns m f es := ⟨S.book.same s, s _ _ S.ends, S.ne, s.seq S.scr, S.tab.ext s⟩
theorem three {ys : List V} {m : Int} (hl : ys.length = (3 : Int).toNat) (hp : ∀ y ∈ ys, ∃ z : Int, y = .int z ∧ 0 ≤ z ∧ z ≤ m) : ∃ z0 z1 z2 : Int, ys = [z0, z1, z2].map V.int ∧ (0 ≤ z0 ∧ z0 ≤ m) ∧ (0 ≤ z1 ∧ z1 ≤ m) ∧ (0 ≤ z2 ∧ z2 ≤ m) := by
  match ys, hl, hp with
  | [x, y, z], _, hp =>
    obtain ⟨z0, rfl, h0⟩ := hp x (by simp)
    obtain ⟨z1, rfl, h1⟩ := hp y (by simp)
    obtain ⟨z2, rfl, h2⟩ := hp z (by simp)
    exact ⟨z0, z1, z2, rfl, h0, h1, h2⟩
theorem k13_b6 {H : Hp} {D : Ends} {E : XK} {a b0 b1 en so hp dd : Addr} {ns : List Int} {m : Int} {f : Int → Int} {es : List Int} {j : Nat} {w : Str} {z0 z1 z2 dl dh z : Int} {o10 o11 o12 : Option V} (S : S13 K C T H a b0 en ns m f es) (hB : Bk C H b1 m (updR (opOf w z) dl dh f)) (hw : w = "add" ∨ w = "fill")
    (hm : m ≤ 1000000000000) (hes : es.length ≤ 1000) (hj : j + 2 < ns.length) (hso : H so = some (.lst ([z0, z1, z2].map V.int))) (g0 : 0 ≤ z0 ∧ z0 ≤ m) (g1 : 0 ≤ z1 ∧ z1 ≤ m) (g2 : 0 ≤ z2 ∧ z2 ≤ m) (hdd : H dd = some (.tup [.int dl, .int dh, .int z])) (d0 : 0 ≤ dl) (d1 : dl ≤ dh) (d2 : dh ≤ m)
    (hh : ∃ lo hi : Int, HeldIs f m lo hi (cell ns j % 41 - 20) hp H ∧ (lo ∈ [z0, z1, z2] ∧ ∀ y ∈ [z0, z1, z2], lo ≤ y) ∧ (hi ∈ [z0, z1, z2] ∧ ∀ y ∈ [z0, z1, z2], y ≤ hi))
    (hD : ∀ (H' : Hp) (en' : Addr) (es' : List Int) (o10 o11 o12 : Option V), S13 K C T H' a b1 en' ns m (updR (opOf w z) dl dh f) es' → es'.length ≤ es.length + 2 → D.nx [some (.ref a), some (.int m), some (.ref b1), some (.ref en'), some (.int (j : Nat)), some (.ref so), some (.ref b0), some (.ref hp), some (.ref dd), some (.str w), o10, o11, o12] H') :
    t_law_k13_4b6 K (sp_l_cell_at K) sp_l_number_by (sp_even C CN) (sp_l_end_by13 K) (sp_l_held C) (sp_deed C CO T opAdd) (sp_deed C CO T opFill) (sp_l_changed13 C) (sp_l_cut13 C) (sp_least C CO CZ 41) (sp_l_first13 C) E D [some (.ref a), some (.int m), some (.ref b1), some (.ref en), some (.int (j : Nat)), some (.ref so), some (.ref b0), some (.ref hp), some (.ref dd), some (.str w), o10, o11, o12] H := by
  have nn := S.book.nn
  unfold t_law_k13_4b6
  walk_at "ev"
  refine ixT_ap (j := 0) (SqT.of hdd) rfl ?_
  refine ixT_ap (j := 1) (SqT.of hdd) rfl ?_
  refine ⟨by show 2 ≤ sizeLine; decide, fun r1 n1 => ?_⟩
  have s1 := same_new n1 (.lst [V.int dl, V.int dh])
  refine ⟨en, r1, _, _, rfl, rfl, s1 _ _ S.ends, upd_same, by rw [List.length_map]; exact Nat.le_of_lt (size_of (by show es.length + 2 ≤ _; omega)), fun en' n2 => ?_⟩
  have s2 := same_new n2 (.lst (es.map V.int ++ [V.int dl, V.int dh]))
  have sA : Same H _ := s1.trans s2
  have e2 : (upd (upd H r1 (.lst [V.int dl, V.int dh])) en' (.lst (es.map V.int ++ [V.int dl, V.int dh]))) en' = some (.lst ((es ++ [dl, dh]).map V.int)) := by rw [upd_same, List.map_append]; rfl
  have SA := S.same sA
  have hBA := hB.same sA
  have soA := sA _ _ hso
  have ddA := sA _ _ hdd
  have hhA : ∃ lo hi : Int, HeldIs f m lo hi (cell ns j % 41 - 20) hp (upd (upd H r1 (.lst [V.int dl, V.int dh])) en' (.lst (es.map V.int ++ [V.int dl, V.int dh]))) ∧ (lo ∈ [z0, z1, z2] ∧ ∀ y ∈ [z0, z1, z2], lo ≤ y) ∧ (hi ∈ [z0, z1, z2] ∧ ∀ y ∈ [z0, z1, z2], y ≤ hi) := by
    obtain ⟨lo, hi, ⟨x, r, e, y⟩, u⟩ := hh
    exact ⟨lo, hi, ⟨x, r, sA _ _ e, y⟩, u⟩
  generalize upd (upd H r1 (.lst [V.int dl, V.int dh])) en' (.lst (es.map V.int ++ [V.int dl, V.int dh])) = H2 at e2 SA hBA soA ddA hhA
  have le2 : (es ++ [dl, dh]).length = es.length + 2 := by simp
  generalize es ++ [dl, dh] = es' at e2 le2
  unfold t_law_k13_4b7
  walk_at "ev"
  refine lc_rngT (fun y => ∃ z : Int, y = .int z ∧ 0 ≤ z ∧ z ≤ m) (by omega) (by omega) ?_ fun cl H3 ys s3 n3 e3 l3 hy3 => ?_
  · intro i H' Q' hi s q'
    walk_at "ev"
    refine (show rIxL K (.ref a) (.int ((j + i : Nat) : Int)) H' _ from cell_ix (s.seq SA.scr) (by omega) ?_)
    walk_at "ev"
    refine ⟨by first | decide | exact ⟨by decide, by decide⟩, ?_⟩
    exact ⟨_, en', es', m, rfl, SqL.of (s _ _ e2), by omega, nn, fun z z0 z1 => q' _ ⟨z, rfl, z0, z1⟩⟩
  obtain ⟨y0, y1, y2, rfl, u0, u1, u2⟩ := three l3 hy3
  refine ⟨cl, _, rfl, SqL.of e3, by simp, fun cs cl2 hperm hpw n4 => ?_⟩
  have s4 := same_new n4 (.lst (cs.map V.int))
  have hcs : ∃ c0 c1 c2 : Int, cs = [c0, c1, c2] ∧ 0 ≤ c0 ∧ c0 ≤ c1 ∧ c1 ≤ c2 ∧ c2 ≤ m := by
    have hl := hperm.length_eq
    match cs, hl, hperm, hpw with
    | [c0, c1, c2], _, hperm, hpw =>
      have mem : ∀ c ∈ [c0, c1, c2], 0 ≤ c ∧ c ≤ m := fun c hc => by
        have := hperm.mem_iff.mp hc
        simp only [List.mem_cons, List.not_mem_nil, or_false] at this
        rcases this with rfl | rfl | rfl
        · exact u0
        · exact u1
        · exact u2
      have a0 := mem c0 (by simp)
      have a2 := mem c2 (by simp)
      rw [List.pairwise_cons, List.pairwise_cons] at hpw
      have g1 := hpw.1 c1 (by simp)
      have g2 := hpw.2.1 c2 (by simp)
      exact ⟨c0, c1, c2, rfl, a0.1, g1, g2, a2.2⟩
  obtain ⟨c0, c1, c2, rfl, v0, v1, v2, v3⟩ := hcs
  have sB : Same H2 _ := s3.trans s4
  have SB := SA.same sB
  have hBB := hBA.same sB
  have soB := sB _ _ soA
  have ddB := sB _ _ ddA
  have enB := sB _ _ e2
  have hhB : ∃ lo hi : Int, HeldIs f m lo hi (cell ns j % 41 - 20) hp (upd H3 cl2 (.lst ([c0, c1, c2].map V.int))) ∧ (lo ∈ [z0, z1, z2] ∧ ∀ y ∈ [z0, z1, z2], lo ≤ y) ∧ (hi ∈ [z0, z1, z2] ∧ ∀ y ∈ [z0, z1, z2], y ≤ hi) := by
    obtain ⟨lo, hi, ⟨x, r, e, y⟩, u⟩ := hhA
    exact ⟨lo, hi, ⟨x, r, sB _ _ e, y⟩, u⟩
  have cB : (upd H3 cl2 (.lst ([c0, c1, c2].map V.int))) cl2 = some (.lst ([c0, c1, c2].map V.int)) := upd_same
  generalize upd H3 cl2 (.lst ([c0, c1, c2].map V.int)) = H4 at SB hBB soB ddB enB hhB cB
  unfold t_law_k13_4b8
  walk_at "ev"
  refine ixL_ap (j := 0) (SqL.of cB) rfl ?_
  refine ixL_ap (j := 2) (SqL.of cB) rfl ?_
  refine ⟨b0, b1, dd, m, f, w, dl, dh, z, c0, c2, rfl, SB.book, hBB, hw, ddB, hm, d0, d1, d2, v0, by omega, v3, fun H5 s5 => ?_⟩
  walk_at "ev"
  unfold t_law_k13_4b9
  walk_at "ev"
  have c5 := s5 _ _ cB
  refine ixL_ap (j := 0) (SqL.of c5) rfl ?_
  refine ixL_ap (j := 1) (SqL.of c5) rfl ?_
  refine ixL_ap (j := 2) (SqL.of c5) rfl ?_
  refine ⟨b1, m, _, c0, c1, c2, rfl, hBB.same s5, v0, v1, v2, v3, fun H6 s6 => ?_⟩
  walk_at "ev"
  have s56 := s5.trans s6
  unfold t_law_k13_4b10
  walk_at "ev"
  refine ixT_ap (j := 2) (SqT.of (s56 _ _ ddB)) rfl ?_
  refine (show rIxL K (.ref a) (.int ((j + 1 : Nat) : Int)) H6 _ from cell_ix (s56.seq SB.scr) (by omega) ?_)
  walk_at "ev"
  refine ⟨by decide, ?_⟩
  generalize z + cell ns (j + 1) % 5 - 2 = bd
  have b12 : ∀ (H7 : Hp) (bd : Int), Same H4 H7 → t_law_k13_4b12 K (sp_l_cell_at K) sp_l_number_by (sp_even C CN) (sp_l_end_by13 K) (sp_l_held C) (sp_deed C CO T opAdd) (sp_deed C CO T opFill) (sp_l_changed13 C) (sp_l_cut13 C) (sp_least C CO CZ 41) (sp_l_first13 C) E D [some (.ref a), some (.int m), some (.ref b1), some (.ref en'), some (.int (j : Nat)), some (.ref so), some (.ref b0), some (.ref hp), some (.ref dd), some (.str w), some (.ref cl2), some (.int bd), o12] H7 := fun H7 bd s7 => by
    unfold t_law_k13_4b12
    walk_at "ev"
    refine ixL_ap (j := 1) (SqL.of (s7 _ _ cB)) rfl ?_
    refine ⟨b1, m, _, c1, bd, rfl, hBB.same s7, by omega, by omega, fun H8 s8 => ?_⟩
    walk_at "ev"
    have s78 := s7.trans s8
    unfold t_law_k13_4b13
    walk_at "ev"
    refine ⟨so, _, rfl, SqL.of (s78 _ _ soB), by simp, fun lo' m1 m2 => ?_⟩
    refine ⟨so, _, rfl, SqL.of (s78 _ _ soB), by simp, fun hi' m3 m4 => ?_⟩
    refine cell_ix (s78.seq SB.scr) (by omega) ?_
    walk_at "ev"
    refine ⟨by decide, ?_⟩
    obtain ⟨lo, hi, hH, ⟨p1, p2⟩, p3, p4⟩ := hhB
    have q1 := m2 lo p1
    have q2 := p2 lo' m1
    have q3 := m4 hi p3
    have q4 := p4 hi' m3
    obtain rfl : lo' = lo := by omega
    obtain rfl : hi' = hi := by omega
    have bnd : ∀ y ∈ [z0, z1, z2], 0 ≤ y ∧ y ≤ m := fun y hy => by
      simp only [List.mem_cons, List.not_mem_nil, or_false] at hy
      rcases hy with rfl | rfl | rfl
      · exact g0
      · exact g1
      · exact g2
    have w1 := bnd _ m1
    have w2 := bnd _ m3
    refine ⟨b0, m, f, lo', hi', _, rfl, SB.book.same s78, w1.1, m2 _ m3, w2.2, fun p2 H9 s9 h9 => ?_⟩
    obtain ⟨x, y, t1, t2⟩ := held_same hH (fun o e => s9 _ _ (s78 _ _ e)) h9
    refine neD_held t2 t1 ?_
    walk_at "ev"
    have s79 := s78.trans s9
    exact hD _ en' es' _ _ _ ⟨hBB.same s79, s79 _ _ enB, by omega, s79.seq SB.scr, SB.tab.ext s79⟩ (by omega)
  unfold t_law_k13_4b11
  walk_at "ev"
  split
  · rename_i hpos
    refine (show rIxL K (.ref a) (.int ((j + 1 : Nat) : Int)) H6 _ from cell_ix (s56.seq SB.scr) (by omega) ?_)
    walk_at "ev"
    refine ⟨by decide, ?_⟩
    split
    · refine bk_least (hBB.same s56) (by omega) hpos (Int.le_refl _) fun H7 u s7 hu => ?_
      refine (show rIxL K (.ref a) (.int ((j + 1 : Nat) : Int)) H7 _ from cell_ix (s7.seq (s56.seq SB.scr)) (by omega) ?_)
      walk_at "ev"
      refine ⟨by first | decide | exact ⟨by decide, by decide⟩, by decide, ?_⟩
      exact b12 _ _ (s56.trans s7)
    · exact b12 _ _ s56
  · exact b12 _ _ s56
theorem k13_4 {H : Hp} {Q : VK} {E : XK} {nx : L2.St → Hp → Prop} {a b en : Addr} {ns : List Int} {m : Int} {f : Int → Int} {es : List Int} (S : S13 K C T H a b en ns m f es) (hm : m ≤ 1000000000000) (hn : ns.length ≤ 63) (hes : es.length ≤ 2) (q : ∀ H', Q (.bl true) H') :
    t_law_k13_4 K (sp_l_cell_at K) sp_l_number_by (sp_even C CN) (sp_l_end_by13 K) (sp_l_held C) (sp_deed C CO T opAdd) (sp_deed C CO T opFill) (sp_l_changed13 C) (sp_l_cut13 C) (sp_least C CO CZ 41) (sp_l_first13 C) E { nx := nx, rt := Q } [some (.ref a), some (.int m), some (.ref b), some (.ref en), none, none, none, none, none, none, none, none, none] H := by
  have nn := S.book.nn
  obtain ⟨n, hR, hn21, hk⟩ := rg23_ex (L := ns.length) hn
  unfold t_law_k13_4
  simp only [tSeq, tForR3_ap]
  walk_at "ev"
  refine nLen_ap S.scr ?_
  rw [List.length_map]
  walk_at "ev"
  rw [show min (ns.length : Int) 63 = (ns.length : Int) by omega]
  refine rng3_ap hR (fun k σ H' => ∃ (b en : Addr) (f : Int → Int) (es : List Int) (o4 o5 o6 o7 o8 o9 o10 o11 o12 : Option V), σ = [some (.ref a), some (.int m), some (.ref b), some (.ref en), o4, o5, o6, o7, o8, o9, o10, o11, o12] ∧ S13 K C T H' a b en ns m f es ∧ es.length ≤ 2 + 2 * k) ?_ ?_ ?_
  · exact ⟨b, en, f, es, _, _, _, _, _, _, _, _, _, rfl, S, by omega⟩
  · rintro k σ H' hkn ⟨b, en, f, es, o4, o5, o6, o7, o8, o9, o10, o11, o12, rfl, S', hel⟩
    have hk' := hk k hkn
    have ne := S'.ne
    have ik : (2 : Int) + (k : Nat) * 3 = ((2 + 3 * k : Nat) : Int) := by omega
    rw [ik]
    generalize hj : 2 + 3 * k = j at hk'
    unfold t_law_k13_4b0
    walk_at "ev"
    refine lc_rngT (fun y => ∃ z : Int, y = .int z ∧ 0 ≤ z ∧ z ≤ m) (by omega) (by omega) ?_ fun so H1 ys s1 n1 e1 l1 hy1 => ?_
    · intro i H'' Q' hi s q'
      walk_at "ev"
      refine (show rIxL K (.ref a) (.int ((j + i : Nat) : Int)) H'' _ from cell_ix (s.seq S'.scr) (by omega) ?_)
      walk_at "ev"
      refine ⟨by first | decide | exact ⟨by decide, by decide⟩, ?_⟩
      exact ⟨_, en, es, m, rfl, SqL.of (s _ _ S'.ends), ne, nn, fun z z0 z1 => q' _ ⟨z, rfl, z0, z1⟩⟩
    obtain ⟨z0, z1, z2, rfl, u0, u1, u2⟩ := three l1 hy1
    have S1 := S'.same s1
    unfold t_law_k13_4b1
    walk_at "ev"
    unfold t_law_k13_4b2
    walk_at "ev"
    refine ⟨so, _, rfl, SqL.of e1, by simp, fun lo m1 m2 => ?_⟩
    refine ⟨so, _, rfl, SqL.of e1, by simp, fun hi m3 m4 => ?_⟩
    refine cell_ix S1.scr (by omega) ?_
    walk_at "ev"
    refine ⟨by decide, ?_⟩
    have bnd : ∀ y ∈ [z0, z1, z2], 0 ≤ y ∧ y ≤ m := fun y hy => by
      simp only [List.mem_cons, List.not_mem_nil, or_false] at hy
      rcases hy with rfl | rfl | rfl
      · exact u0
      · exact u1
      · exact u2
    have w1 := bnd _ m1
    have w2 := bnd _ m3
    refine ⟨b, m, f, lo, hi, _, rfl, S1.book, w1.1, m2 _ m3, w2.2, fun hp H2 s2 h2 => ?_⟩
    have S2 := S1.same s2
    have e2 := s2 _ _ e1
    unfold t_law_k13_4b3
    walk_at "ev"
    refine ixL_ap (j := 0) (SqL.of e2) rfl ?_
    refine ixL_ap (j := 1) (SqL.of e2) rfl ?_
    walk_at "ev"
    refine ixL_ap (j := 0) (SqL.of e2) rfl ?_
    refine ixL_ap (j := 1) (SqL.of e2) rfl ?_
    walk_at "ev"
    refine (show rIxL K (.ref a) (.int ((j + 2 : Nat) : Int)) H2 _ from cell_ix S2.scr (by omega) ?_)
    walk_at "ev"
    refine ⟨by first | decide | exact ⟨by decide, by decide⟩, ?_⟩
    simp only [l_number_by_ap]
    generalize numBy (cell ns (j + 2) / 3) = z
    try walk_at "ev"
    have g0 : 0 ≤ min z0 z1 := by omega
    have g1 : min z0 z1 ≤ max z0 z1 := by omega
    have g2 : max z0 z1 ≤ m := by omega
    generalize min z0 z1 = dl at g0 g1
    generalize max z0 z1 = dh at g1 g2
    refine ⟨by show 3 ≤ sizeLine; decide, fun dd n3 => ?_⟩
    have s3 := same_new n3 (.tup [.int dl, .int dh, .int z])
    have S3 := S2.same s3
    have e3 := s3 _ _ e2
    have h3 : HeldIs f m lo hi (cell ns j % 41 - 20) hp (upd H2 dd (.tup [.int dl, .int dh, .int z])) := by
      obtain ⟨x, r, e, y⟩ := h2
      exact ⟨x, r, s3 _ _ e, y⟩
    have d3 : (upd H2 dd (.tup [.int dl, .int dh, .int z])) dd = some (.tup [.int dl, .int dh, .int z]) := upd_same
    generalize upd H2 dd (.tup [.int dl, .int dh, .int z]) = H3 at S3 e3 h3 d3
    unfold t_law_k13_4b4
    walk_at "ev"
    refine ⟨by show 3 ≤ sizeLine; decide, fun wl n4 => ?_⟩
    have s4 := same_new n4 (.lst [V.str "add", V.str "fill", V.str "add"])
    have S4 := S3.same s4
    refine cell_ix S4.scr (by omega) ?_
    walk_at "ev"
    refine ⟨by decide, ?_⟩
    obtain ⟨i, ei, hi3⟩ := mod_nat (c := cell ns j) (show (0 : Int) < 3 by omega)
    rw [ei]
    obtain ⟨w, hw, hw'⟩ : ∃ w : Str, [V.str "add", V.str "fill", V.str "add"][i]? = some (.str w) ∧ (w = "add" ∨ w = "fill") := by
      have : i < 3 := by omega
      clear ei hi3
      rcases i with _ | _ | _ | i
      · exact ⟨_, rfl, .inl rfl⟩
      · exact ⟨_, rfl, .inr rfl⟩
      · exact ⟨_, rfl, .inl rfl⟩
      · omega
    refine ixL_ap (SqL.of upd_same) hw ?_
    have e4 := s4 _ _ e3
    have d4 := s4 _ _ d3
    have h4 : HeldIs f m lo hi (cell ns j % 41 - 20) hp (upd H3 wl (.lst [V.str "add", V.str "fill", V.str "add"])) := by
      obtain ⟨x, r, e, y⟩ := h3
      exact ⟨x, r, s4 _ _ e, y⟩
    generalize upd H3 wl (.lst [V.str "add", V.str "fill", V.str "add"]) = H4 at S4 e4 d4 h4
    unfold t_law_k13_4b5
    walk_at "ev"
    simp only [rEqS_ap]
    walk_at "ev"
    have next : ∀ (D : Ends) (x : Addr) (H5 : Hp), (∀ (H' : Hp) (en' : Addr) (f' : Int → Int) (es' : List Int) (o10 o11 o12 : Option V), S13 K C T H' a x en' ns m f' es' → es'.length ≤ 2 + 2 * (k + 1) → D.nx [some (.ref a), some (.int m), some (.ref x), some (.ref en'), some (.int (j : Nat)), some (.ref so), some (.ref b), some (.ref hp), some (.ref dd), some (.str w), o10, o11, o12] H') →
        ExtN H4 H5 → Tabs T H5 → Bk C H5 x m (updR (opOf w z) dl dh f) → t_law_k13_4b6 K (sp_l_cell_at K) sp_l_number_by (sp_even C CN) (sp_l_end_by13 K) (sp_l_held C) (sp_deed C CO T opAdd) (sp_deed C CO T opFill) (sp_l_changed13 C) (sp_l_cut13 C) (sp_least C CO CZ 41) (sp_l_first13 C) E D [some (.ref a), some (.int m), some (.ref x), some (.ref en), some (.int (j : Nat)), some (.ref so), some (.ref b), some (.ref hp), some (.ref dd), some (.str w), o10, o11, o12] H5 := fun D x H5 hD e5 T5 hx => by
      have S5 : S13 K C T H5 a b en ns m f es := ⟨S4.book.ins (.extN e5), ext_lst e5 S4.ends, S4.ne, RB.ExtN.seq e5 S4.scr, T5⟩
      refine k13_b6 S5 hx hw' hm (by omega) (by omega) (ext_lst e5 e4) u0 u1 u2 (e5 _ _ d4 (by intro ps z; cases z)) g0 g1 g2 ⟨lo, hi, ?_, ⟨m1, m2⟩, m3, m4⟩ fun H' en' es' o10 o11 o12 S' hl' => ?_
      · obtain ⟨x, r, e, y⟩ := h4
        exact ⟨x, r, e5 _ _ e (by intro ps z; cases z), y⟩
      · exact hD H' en' _ es' _ _ _ S' (by omega)
    split
    · rename_i hwa
      refine ixT_ap (j := 0) (SqT.of d4) rfl ?_
      refine ixT_ap (j := 1) (SqT.of d4) rfl ?_
      refine ixT_ap (j := 2) (SqT.of d4) rfl ?_
      refine bk_deed S4.book S4.tab g0 g1 g2 fun x H5 e5 T5 hx => ?_
      rw [op_add_eq] at hx
      exact next _ x H5 (fun H' en' f' es' o10 o11 o12 S z => ⟨_, _, _, _, _, _, _, _, _, _, _, _, _, rfl, S, z⟩) e5 T5 (by rw [hwa]; exact hx)
    · rename_i hwa
      refine ixT_ap (j := 0) (SqT.of d4) rfl ?_
      refine ixT_ap (j := 1) (SqT.of d4) rfl ?_
      refine ixT_ap (j := 2) (SqT.of d4) rfl ?_
      refine bk_deed S4.book S4.tab g0 g1 g2 fun x H5 e5 T5 hx => ?_
      rw [op_fill_eq] at hx
      exact next _ x H5 (fun H' en' f' es' o10 o11 o12 S z => ⟨_, _, _, _, _, _, _, _, _, _, _, _, _, rfl, S, z⟩) e5 T5 (by rw [hw'.resolve_left hwa]; exact hx)
  · rintro σ H' ⟨b, en, f, es, o4, o5, o6, o7, o8, o9, o10, o11, o12, rfl, S', hel⟩
    unfold t_law_k13_5
    walk_at "ev"
    exact q _
theorem k13_2 {H : Hp} {Q : VK} {E : XK} {nx : L2.St → Hp → Prop} {a : Addr} {ns : List Int} {m : Int} (hS : SqL K H a (ns.map V.int)) (hT : Tabs T H) (h0 : 0 ≤ m) (hm : m ≤ 1000000000000) (hn : ns.length ≤ 63) (q : ∀ H', Q (.bl true) H') :
    t_law_k13_2 K (sp_l_cell_at K) sp_l_number_by (sp_even C CN) (sp_l_end_by13 K) (sp_l_held C) (sp_deed C CO T opAdd) (sp_deed C CO T opFill) (sp_l_changed13 C) (sp_l_cut13 C) (sp_least C CO CZ 41) (sp_l_first13 C) E { nx := nx, rt := Q } [some (.ref a), some (.int m), none, none, none, none, none, none, none, none, none, none, none] H := by
  unfold t_law_k13_2
  walk_at "ev"
  refine ⟨a, ns, 1, rfl, hS, ?_⟩
  simp only [l_number_by_ap]
  generalize numBy (cell ns 1) = z
  try walk_at "ev"
  refine ⟨m, z, rfl, fun _ b H1 s1 n1 hb => ?_, fun y => by omega⟩
  unfold t_law_k13_3
  walk_at "ev"
  refine ⟨by show 2 ≤ sizeLine; decide, fun en n2 => ?_⟩
  have s2 := same_new n2 (.lst [V.int 0, V.int m])
  have sA := s1.trans s2
  exact k13_4 (es := [0, m]) (f := fun _ => z) ⟨(bk_even hb h0 hm).same s2, upd_same, by simp, sA.seq hS, hT.ext sA⟩ hm hn (by simp) q
theorem p_law_k13 (vs : List V) (H : Hp) (Q : VK) (E : XK) (h : sp_lawT K T vs H Q E) :
    t_law_k13 K (sp_l_cell_at K) sp_l_number_by (sp_even C CN) (sp_l_end_by13 K) (sp_l_held C) (sp_deed C CO T opAdd) (sp_deed C CO T opFill) (sp_l_changed13 C) (sp_l_cut13 C) (sp_least C CO CZ 41) (sp_l_first13 C) E { nx := fun _ H' => Q .non H', rt := Q } (start ["_law_script", "_law_many", "_law_book", "_law_ends", "_law_k", "_law_some", "_law_ahead", "_law_held_here", "_law_deed", "_law_word", "_law_cuts", "_law_bound", "_law_j"] vs) H := by
  obtain ⟨a, ns, rfl, hS, hn, hT, q⟩ := h
  show t_law_k13 K (sp_l_cell_at K) sp_l_number_by (sp_even C CN) (sp_l_end_by13 K) (sp_l_held C) (sp_deed C CO T opAdd) (sp_deed C CO T opFill) (sp_l_changed13 C) (sp_l_cut13 C) (sp_least C CO CZ 41) (sp_l_first13 C) E _ [some (.ref a), none, none, none, none, none, none, none, none, none, none, none, none] H
  unfold t_law_k13
  walk_at "ev"
  refine ⟨a, ns, 0, rfl, hS, ?_⟩
  walk_at "ev"
  have e12 : (10 : Int) ^ (12 : Int).toNat + 1 = 1000000000001 := by decide
  rw [e12]
  refine ⟨by first | decide | exact ⟨by decide, by decide⟩, by first | decide | exact ⟨by decide, by decide⟩, by decide, ?_⟩
  have d0 := Int.emod_nonneg (cell ns 0 / 4) (show (1000000000001 : Int) ≠ 0 by omega)
  have d1 := Int.emod_lt_of_pos (cell ns 0 / 4) (show (0 : Int) < 1000000000001 by omega)
  unfold t_law_k13_1
  walk_at "ev"
  refine ⟨a, ns, 0, rfl, hS, ?_⟩
  walk_at "ev"
  refine ⟨by decide, ?_⟩
  split
  · refine ⟨a, ns, 0, rfl, hS, ?_⟩
    walk_at "ev"
    have d2 := Int.emod_nonneg (cell ns 0 / 4) (show (41 : Int) ≠ 0 by omega)
    have d3 := Int.emod_lt_of_pos (cell ns 0 / 4) (show (0 : Int) < 41 by omega)
    exact ⟨by first | decide | exact ⟨by decide, by decide⟩, by decide, k13_2 hS hT d2 (by omega) hn q⟩
  · exact k13_2 hS hT d0 (by omega) hn q
end
end RB
namespace RB
open PySem PySem.Spec PyProof.Rows L2 LamX NdefX
def top (i : Nat) : Stmt := PySem.Challenge.pw_rangebook_k13_whole_answers_meet.main.body.getD i (.Pass ⟨0, 0, 0, 0⟩)
abbrev st_check_stretch : Stmt := top 7
abbrev st_Tree_init : Stmt := inClass (top 9) 0
abbrev st_even_tree : Stmt := top 10
abbrev st_joined : Stmt := top 11
abbrev st_raised : Stmt := top 12
abbrev st_halves : Stmt := top 13
abbrev st_added_in : Stmt := top 14
abbrev st_filled_in : Stmt := top 15
abbrev st_changed : Stmt := top 16
abbrev st_total_in : Stmt := top 17
abbrev st_least_in : Stmt := top 18
abbrev st_first_in : Stmt := top 19
abbrev st_numbers_in : Stmt := top 20
abbrev st_changed_in : Stmt := top 21
abbrev st_total : Stmt := top 23
abbrev st_least : Stmt := top 24
abbrev st_place : Stmt := top 25
abbrev st_first : Stmt := top 26
abbrev st_even : Stmt := top 30
abbrev st_listed : Stmt := top 31
abbrev st_added : Stmt := top 33
abbrev st_filled : Stmt := top 34
abbrev st_l_whole : Stmt := top 36
abbrev st_l_cell_at : Stmt := top 37
abbrev st_l_number_by : Stmt := top 38
abbrev st_l_end_by13 : Stmt := top 39
abbrev st_l_least_of : Stmt := top 40
abbrev st_l_changed13 : Stmt := top 41
abbrev st_l_cut13 : Stmt := top 42
abbrev st_l_first13 : Stmt := top 43
abbrev st_l_held : Stmt := top 44
abbrev st_law_k13 : Stmt := top 45
theorem sc_check_stretch : FnScope ["book", "low", "high"] ["book", "low", "high"] (defScope st_check_stretch) := ⟨rfl, rfl, rfl, by decide +kernel, rfl, by decide +kernel, by decide +kernel⟩
theorem d_check_stretch {P : Program} {w : World} {K : PySem.W.Frag} {mg : Str → Option Value} {base : Heap} {k : Nat} {C_OutOfRow : Addr}
    (x_OutOfRow : ExcAt K mg "OutOfRow" C_OutOfRow)
    (f : Addr) (cdv : Value) (A : Around) (outer : List Env) (s : Shared) (H : Hp) (E : XK) (hr : Room k (A.deeper (envOfC "check_stretch" (defScope st_check_stretch) s.heap.objs.size f cdv))) :
    PSs (cxOf (L2.CX P w) P w K mg base ["book", "low", "high"] "check_stretch" (defScope st_check_stretch) f cdv A outer s H E) (defBody st_check_stretch) (t_check_stretch K C_OutOfRow E) :=
  (pss_one (ps_if (pt_not (pt_chain3 oLe oLe oLe pe_int (pv 1) (pv 2) (pe_fld (pv 0) rfl))) (pss_one (ps_raiseC x_OutOfRow rfl)) pss_nil))
theorem sc_Tree_init : FnScope ["self", "many", "total", "least", "more", "left", "right"] ["self", "many", "total", "least", "more", "left", "right"] (defScope st_Tree_init) := ⟨rfl, rfl, rfl, by decide +kernel, rfl, by decide +kernel, by decide +kernel⟩
theorem d_Tree_init {P : Program} {w : World} {K : PySem.W.Frag} {mg : Str → Option Value} {base : Heap} {k : Nat} 
    
    (f : Addr) (cdv : Value) (A : Around) (outer : List Env) (s : Shared) (H : Hp) (E : XK) (hr : Room k (A.deeper (envOfC "Tree.__init__" (defScope st_Tree_init) s.heap.objs.size f cdv))) :
    PSs (cxOf (L2.CX P w) P w K mg base ["self", "many", "total", "least", "more", "left", "right"] "Tree.__init__" (defScope st_Tree_init) f cdv A outer s H E) (defBody st_Tree_init) (t_Tree_init K E) :=
  (pss_cons (ps_fld (pv 0) (pv 1) rfl)
    (pss_cons (ps_fld (pv 0) (pv 2) rfl)
    (pss_cons (ps_fld (pv 0) (pv 3) rfl)
    (pss_cons (ps_fld (pv 0) (pv 4) rfl)
    (pss_cons (ps_fld (pv 0) (pv 5) rfl)
    (pss_one (ps_fld (pv 0) (pv 6) rfl)))))))
theorem sc_even_tree : FnScope ["many", "number"] ["many", "number"] (defScope st_even_tree) := ⟨rfl, rfl, rfl, by decide +kernel, rfl, by decide +kernel, by decide +kernel⟩
theorem d_even_tree {P : Program} {w : World} {K : PySem.W.Frag} {mg : Str → Option Value} {base : Heap} {k : Nat} {C_Tree : Addr} {s_Tree : Sp}
    {k_Tree : Nat} (m_Tree : CalMk P w K mg base k_Tree "Tree" C_Tree ["self", "many", "total", "least", "more", "left", "right"] s_Tree) (h_Tree : k_Tree + 1 ≤ k)
    (f : Addr) (cdv : Value) (A : Around) (outer : List Env) (s : Shared) (H : Hp) (E : XK) (hr : Room k (A.deeper (envOfC "even_tree" (defScope st_even_tree) s.heap.objs.size f cdv))) :
    PSs (cxOf (L2.CX P w) P w K mg base ["many", "number"] "even_tree" (defScope st_even_tree) f cdv A outer s H E) (defBody st_even_tree) (t_even_tree C_Tree s_Tree E) :=
  (pss_one (ps_ret (pe_makeC m_Tree hr (by omega) rfl pass_own (pa_cons (pv 0) (pa_cons (pe_op oMul (pv 0) (pv 1)) (pa_cons (pv 1) (pa_cons pe_int (pa_cons pe_non (pa_cons pe_non pa_nil)))))))))
theorem sc_joined : FnScope ["left", "right", "more", "many", "total"] ["left", "right", "more"] (defScope st_joined) := ⟨rfl, rfl, rfl, by decide +kernel, rfl, by decide +kernel, by decide +kernel⟩
theorem d_joined {P : Program} {w : World} {K : PySem.W.Frag} {mg : Str → Option Value} {base : Heap} {k : Nat} {C_Tree : Addr} {s_Tree : Sp}
    {k_Tree : Nat} (m_Tree : CalMk P w K mg base k_Tree "Tree" C_Tree ["self", "many", "total", "least", "more", "left", "right"] s_Tree) (h_Tree : k_Tree + 1 ≤ k) (z_min : mg "min" = none)
    (f : Addr) (cdv : Value) (A : Around) (outer : List Env) (s : Shared) (H : Hp) (E : XK) (hr : Room k (A.deeper (envOfC "joined" (defScope st_joined) s.heap.objs.size f cdv))) :
    PSs (cxOf (L2.CX P w) P w K mg base ["left", "right", "more", "many", "total"] "joined" (defScope st_joined) f cdv A outer s H E) (defBody st_joined) (t_joined K C_Tree s_Tree E) :=
  (pss_cons (ps_set (i := 3) sc_joined.nd rfl (Or.inl rfl) (pe_op oAdd (pe_fld (pv 0) rfl) (pe_fld (pv 1) rfl)))
    (pss_cons (ps_set (i := 4) sc_joined.nd rfl (Or.inl rfl) (pe_op oAdd (pe_op oAdd (pe_fld (pv 0) rfl) (pe_fld (pv 1) rfl)) (pe_op oMul (pv 3) (pv 2))))
    (pss_one (ps_ret (pe_makeC m_Tree hr (by omega) rfl pass_own (pa_cons (pv 3) (pa_cons (pv 4) (pa_cons (pe_op oAdd (pe_callB (cMin rfl) rfl z_min (by decide +kernel) (pa_cons (pe_fld (pv 0) rfl) (pa_cons (pe_fld (pv 1) rfl) pa_nil))) (pv 2)) (pa_cons (pv 2) (pa_cons (pv 0) (pa_cons (pv 1) pa_nil)))))))))))
theorem sc_raised : FnScope ["tree", "by"] ["tree", "by"] (defScope st_raised) := ⟨rfl, rfl, rfl, by decide +kernel, rfl, by decide +kernel, by decide +kernel⟩
theorem d_raised {P : Program} {w : World} {K : PySem.W.Frag} {mg : Str → Option Value} {base : Heap} {k : Nat} {s_even_tree : Sp} {s_joined : Sp}
    {k_even_tree : Nat} (c_even_tree : Cal P w K mg base k_even_tree "even_tree" ["many", "number"] s_even_tree) (h_even_tree : k_even_tree ≤ k) {k_joined : Nat} (c_joined : Cal P w K mg base k_joined "joined" ["left", "right", "more"] s_joined) (h_joined : k_joined ≤ k)
    (f : Addr) (cdv : Value) (A : Around) (outer : List Env) (s : Shared) (H : Hp) (E : XK) (hr : Room k (A.deeper (envOfC "raised" (defScope st_raised) s.heap.objs.size f cdv))) :
    PSs (cxOf (L2.CX P w) P w K mg base ["tree", "by"] "raised" (defScope st_raised) f cdv A outer s H E) (defBody st_raised) (t_raised K s_even_tree s_joined E) :=
  (pss_cons (ps_if (pt_cmpR oIs (pe_fld (pv 0) rfl) pe_non (nomark _)) (pss_one (ps_ret (pe_callC c_even_tree hr (by omega) rfl pass_own (pa_cons (pe_fld (pv 0) rfl) (pa_cons (pe_op oAdd (pe_fld (pv 0) rfl) (pv 1)) pa_nil))))) pss_nil)
    (pss_one (ps_ret (pe_callC c_joined hr (by omega) rfl pass_own (pa_cons (pe_fld (pv 0) rfl) (pa_cons (pe_fld (pv 0) rfl) (pa_cons (pe_op oAdd (pe_fld (pv 0) rfl) (pv 1)) pa_nil)))))))
theorem sc_halves : FnScope ["tree", "half"] ["tree"] (defScope st_halves) := ⟨rfl, rfl, rfl, by decide +kernel, rfl, by decide +kernel, by decide +kernel⟩
theorem d_halves {P : Program} {w : World} {K : PySem.W.Frag} {mg : Str → Option Value} {base : Heap} {k : Nat} {s_even_tree : Sp}
    {k_even_tree : Nat} (c_even_tree : Cal P w K mg base k_even_tree "even_tree" ["many", "number"] s_even_tree) (h_even_tree : k_even_tree ≤ k)
    (f : Addr) (cdv : Value) (A : Around) (outer : List Env) (s : Shared) (H : Hp) (E : XK) (hr : Room k (A.deeper (envOfC "halves" (defScope st_halves) s.heap.objs.size f cdv))) :
    PSs (cxOf (L2.CX P w) P w K mg base ["tree", "half"] "halves" (defScope st_halves) f cdv A outer s H E) (defBody st_halves) (t_halves K s_even_tree E) :=
  (pss_cons (ps_if (pt_cmpR oIsNot (pe_fld (pv 0) rfl) pe_non (nomark _)) (pss_one (ps_ret (pe_tup (pa_cons (pe_fld (pv 0) rfl) (pa_cons (pe_fld (pv 0) rfl) pa_nil))))) pss_nil)
    (pss_cons (ps_set (i := 1) sc_halves.nd rfl (Or.inl rfl) (pe_op oDiv (pe_fld (pv 0) rfl) pe_int))
    (pss_one (ps_ret (pe_tup (pa_cons (pe_callC c_even_tree hr (by omega) rfl pass_own (pa_cons (pv 1) (pa_cons (pe_fld (pv 0) rfl) pa_nil))) (pa_cons (pe_callC c_even_tree hr (by omega) rfl pass_own (pa_cons (pe_op oSub (pe_fld (pv 0) rfl) (pv 1)) (pa_cons (pe_fld (pv 0) rfl) pa_nil))) pa_nil)))))))
theorem sc_added_in : FnScope ["tree", "low", "high", "by"] ["tree", "low", "high", "by"] (defScope st_added_in) := ⟨rfl, rfl, rfl, by decide +kernel, rfl, by decide +kernel, by decide +kernel⟩
abbrev la_added_in : Expr := lamOf (defBody st_added_in)
abbrev q_added_in : Str := "added_in.<locals>.<lambda>"
theorem lf_added_in : ∀ y ∈ (lamSc la_added_in).names, y.2 = .free → (defScope st_added_in).names.lookup y.1 = some .cell ∨ (defScope st_added_in).names.lookup y.1 = some .free := by decide +kernel
theorem ns_lam_added_in : NScope ["part", "above", "by"] ["part", "above"] ["by"] (lamSc la_added_in) := nscope_by (by decide +kernel)
theorem d_lam_added_in {P : Program} {w : World} {K : PySem.W.Frag} {mg : Str → Option Value} {base : Heap} {k : Nat} {s_raised : Sp}
    {k_raised : Nat} (c_raised : Cal P w K mg base k_raised "raised" ["tree", "by"] s_raised) (h_raised : k_raised ≤ k)
    (f : Addr) (cl : List (Str × Addr)) (c : Addr) (A : Around) (outer : List Env) (s : Shared) (H : Hp) (E : XK) (hr : Room k (A.deeper (envF (LF.nf ⟨q_added_in, la_added_in, cl, c⟩) f s.heap.objs.size))) :
    PE (ncx (L2.CX P w) P w K mg base ["part", "above", "by"] (LF.nf ⟨q_added_in, la_added_in, cl, c⟩) f A outer s H E) (lamE la_added_in) (t_lam_added_in s_raised E) :=
  (pe_callC c_raised hr (by omega) rfl pass_lam (pa_cons (pv 0) (pa_cons (pv 2) pa_nil)))
theorem d_added_in {P : Program} {w : World} {K : PySem.W.Frag} {mg : Str → Option Value} {base : Heap} {k : Nat} {T_ : List (Addr × Str)} {s_changed : Addr → LF → List (Option V) → Sp}
    {k_changed : Nat} (c_changed : ∀ (f : Addr) (F : LF) (ws : List (Option V)), F.Is q_added_in la_added_in → CalG P w K mg base k_changed "changed" ["tree", "low", "high", "change"] (GL f F ["by"] ws) (s_changed f F ws)) (h_changed : k_changed ≤ k) {ca_ Pt_ : Addr} (TB : TabB base mg ca_ Pt_) (hm : (Pt_, q_added_in) ∈ T_) (hu : ∀ p ∈ T_, p.1 = Pt_ → p.2 = q_added_in)
    (f : Addr) (A : Around) (outer : List Env) (s : Shared) (H : Hp) (E : XK) (hr : Room k (A.deeper (envOfC "added_in" (defScope st_added_in) s.heap.objs.size f (.ref ca_)))) :
    PSs (cxOf (L2.CX P w) P w K mg base ["tree", "low", "high", "by"] "added_in" (defScope st_added_in) f (.ref ca_) A outer s H E) (defBody st_added_in) (t_added_in T_ q_added_in la_added_in s_changed E) :=
  (pss_one (ps_ret (pe_lamcall3 (l := la_added_in) (q := q_added_in) (js := [3]) (fr := ["by"]) c_changed hr (by omega) rfl pass_own (fun _ => rfl) (pv 0) (pv 1) (pv 2) rfl TB rfl rfl hm hu rfl lf_added_in (by decide +kernel) rfl)))
theorem sc_filled_in : FnScope ["tree", "low", "high", "number"] ["tree", "low", "high", "number"] (defScope st_filled_in) := ⟨rfl, rfl, rfl, by decide +kernel, rfl, by decide +kernel, by decide +kernel⟩
abbrev la_filled_in : Expr := lamOf (defBody st_filled_in)
abbrev q_filled_in : Str := "filled_in.<locals>.<lambda>"
theorem lf_filled_in : ∀ y ∈ (lamSc la_filled_in).names, y.2 = .free → (defScope st_filled_in).names.lookup y.1 = some .cell ∨ (defScope st_filled_in).names.lookup y.1 = some .free := by decide +kernel
theorem ns_lam_filled_in : NScope ["part", "above", "number"] ["part", "above"] ["number"] (lamSc la_filled_in) := nscope_by (by decide +kernel)
theorem d_lam_filled_in {P : Program} {w : World} {K : PySem.W.Frag} {mg : Str → Option Value} {base : Heap} {k : Nat} {s_even_tree : Sp}
    {k_even_tree : Nat} (c_even_tree : Cal P w K mg base k_even_tree "even_tree" ["many", "number"] s_even_tree) (h_even_tree : k_even_tree ≤ k)
    (f : Addr) (cl : List (Str × Addr)) (c : Addr) (A : Around) (outer : List Env) (s : Shared) (H : Hp) (E : XK) (hr : Room k (A.deeper (envF (LF.nf ⟨q_filled_in, la_filled_in, cl, c⟩) f s.heap.objs.size))) :
    PE (ncx (L2.CX P w) P w K mg base ["part", "above", "number"] (LF.nf ⟨q_filled_in, la_filled_in, cl, c⟩) f A outer s H E) (lamE la_filled_in) (t_lam_filled_in K s_even_tree E) :=
  (pe_callC c_even_tree hr (by omega) rfl pass_lam (pa_cons (pe_fld (pv 0) rfl) (pa_cons (pe_op oSub (pv 2) (pv 1)) pa_nil)))
theorem d_filled_in {P : Program} {w : World} {K : PySem.W.Frag} {mg : Str → Option Value} {base : Heap} {k : Nat} {T_ : List (Addr × Str)} {s_changed : Addr → LF → List (Option V) → Sp}
    {k_changed : Nat} (c_changed : ∀ (f : Addr) (F : LF) (ws : List (Option V)), F.Is q_filled_in la_filled_in → CalG P w K mg base k_changed "changed" ["tree", "low", "high", "change"] (GL f F ["number"] ws) (s_changed f F ws)) (h_changed : k_changed ≤ k) {ca_ Pt_ : Addr} (TB : TabB base mg ca_ Pt_) (hm : (Pt_, q_filled_in) ∈ T_) (hu : ∀ p ∈ T_, p.1 = Pt_ → p.2 = q_filled_in)
    (f : Addr) (A : Around) (outer : List Env) (s : Shared) (H : Hp) (E : XK) (hr : Room k (A.deeper (envOfC "filled_in" (defScope st_filled_in) s.heap.objs.size f (.ref ca_)))) :
    PSs (cxOf (L2.CX P w) P w K mg base ["tree", "low", "high", "number"] "filled_in" (defScope st_filled_in) f (.ref ca_) A outer s H E) (defBody st_filled_in) (t_filled_in T_ q_filled_in la_filled_in s_changed E) :=
  (pss_one (ps_ret (pe_lamcall3 (l := la_filled_in) (q := q_filled_in) (js := [3]) (fr := ["number"]) c_changed hr (by omega) rfl pass_own (fun _ => rfl) (pv 0) (pv 1) (pv 2) rfl TB rfl rfl hm hu rfl lf_filled_in (by decide +kernel) rfl)))
theorem sc_changed : FnScope ["tree", "low", "high", "change"] ["tree", "low", "high", "change"] (defScope st_changed) := ⟨rfl, rfl, rfl, by decide +kernel, rfl, by decide +kernel, by decide +kernel⟩
theorem d_changed {P : Program} {w : World} {K : PySem.W.Frag} {mg : Str → Option Value} {base : Heap} {k : Nat} {f_ : Addr} {F_ : LF} {fr_ : List Str} {ws_ : List (Option V)} {s_raised : Sp} {s_changed_in : Sp}
    {k_raised : Nat} (c_raised : Cal P w K mg base k_raised "raised" ["tree", "by"] s_raised) (h_raised : k_raised ≤ k) {k_changed_in : Nat} (c_changed_in : CalG P w K mg base k_changed_in "changed_in" ["tree", "low", "high", "above", "change"] (GL f_ F_ fr_ ws_) s_changed_in) (h_changed_in : k_changed_in ≤ k)
    (f : Addr) (cdv : Value) (A : Around) (outer : List Env) (s : Shared) (H : Hp) (E : XK) (hG : GL f_ F_ fr_ ws_ outer s H) (hr : Room k (A.deeper (envOfC "changed" (defScope st_changed) s.heap.objs.size f cdv))) :
    PSs (cxOf (L2.CX P w) P w K mg base ["tree", "low", "high", "change"] "changed" (defScope st_changed) f cdv A outer s H E) (defBody st_changed) (t_changed s_raised s_changed_in E) :=
  (pss_cons (ps_if (pt_cmpR op_eq (pv 1) (pv 2) (nomark _)) (pss_one (ps_ret (pe_callC c_raised hr (by omega) rfl pass_own (pa_cons (pv 0) (pa_cons pe_int pa_nil))))) pss_nil)
    (pss_one (ps_ret (pe_callG c_changed_in hr (by omega) (fun _ _ _ _ I => hG.later I) rfl pass_own (pa_cons (pv 0) (pa_cons (pv 1) (pa_cons (pv 2) (pa_cons pe_int (pa_cons (pv 3) pa_nil)))))))))
theorem sc_total_in : FnScope ["tree", "low", "high", "half", "ahead", "behind"] ["tree", "low", "high"] (defScope st_total_in) := ⟨rfl, rfl, rfl, by decide +kernel, rfl, by decide +kernel, by decide +kernel⟩
theorem d_total_in {P : Program} {w : World} {K : PySem.W.Frag} {mg : Str → Option Value} {base : Heap} {k : Nat} {s_total_in : Sp}
    {k_total_in : Nat} (c_total_in : Cal P w K mg base k_total_in "total_in" ["tree", "low", "high"] s_total_in) (h_total_in : k_total_in ≤ k) (z_max : mg "max" = none) (z_min : mg "min" = none)
    (f : Addr) (cdv : Value) (A : Around) (outer : List Env) (s : Shared) (H : Hp) (E : XK) (hr : Room k (A.deeper (envOfC "total_in" (defScope st_total_in) s.heap.objs.size f cdv))) :
    PSs (cxOf (L2.CX P w) P w K mg base ["tree", "low", "high", "half", "ahead", "behind"] "total_in" (defScope st_total_in) f cdv A outer s H E) (defBody st_total_in) (t_total_in K s_total_in E) :=
  (pss_cons (ps_set (i := 1) sc_total_in.nd rfl (Or.inl rfl) (pe_callB (cMax rfl) rfl z_max (by decide +kernel) (pa_cons (pv 1) (pa_cons pe_int pa_nil))))
    (pss_cons (ps_set (i := 2) sc_total_in.nd rfl (Or.inl rfl) (pe_callB (cMin rfl) rfl z_min (by decide +kernel) (pa_cons (pv 2) (pa_cons (pe_fld (pv 0) rfl) pa_nil))))
    (pss_cons (ps_if (pt_cmpR oGe (pv 1) (pv 2) (nomark _)) (pss_one (ps_ret pe_int)) pss_nil)
    (pss_cons (ps_if (pt_cmpR op_eq (pe_op oSub (pv 2) (pv 1)) (pe_fld (pv 0) rfl) (nomark _)) (pss_one (ps_ret (pe_fld (pv 0) rfl))) pss_nil)
    (pss_cons (ps_if (pt_cmpR oIs (pe_fld (pv 0) rfl) pe_non (nomark _)) (pss_one (ps_ret (pe_op oMul (pe_op oSub (pv 2) (pv 1)) (pe_fld (pv 0) rfl)))) pss_nil)
    (pss_cons (ps_set (i := 3) sc_total_in.nd rfl (Or.inl rfl) (pe_fld (pe_fld (pv 0) rfl) rfl))
    (pss_cons (ps_set (i := 4) sc_total_in.nd rfl (Or.inl rfl) (pe_callC c_total_in hr (by omega) rfl pass_own (pa_cons (pe_fld (pv 0) rfl) (pa_cons (pv 1) (pa_cons (pv 2) pa_nil)))))
    (pss_cons (ps_set (i := 5) sc_total_in.nd rfl (Or.inl rfl) (pe_callC c_total_in hr (by omega) rfl pass_own (pa_cons (pe_fld (pv 0) rfl) (pa_cons (pe_op oSub (pv 1) (pv 3)) (pa_cons (pe_op oSub (pv 2) (pv 3)) pa_nil)))))
    (pss_one (ps_ret (pe_op oAdd (pe_op oAdd (pv 4) (pv 5)) (pe_op oMul (pe_op oSub (pv 2) (pv 1)) (pe_fld (pv 0) rfl)))))))))))))
theorem sc_least_in : FnScope ["tree", "low", "high", "half", "ahead", "behind", "number"] ["tree", "low", "high"] (defScope st_least_in) := ⟨rfl, rfl, rfl, by decide +kernel, rfl, by decide +kernel, by decide +kernel⟩
theorem d_least_in {P : Program} {w : World} {K : PySem.W.Frag} {mg : Str → Option Value} {base : Heap} {k : Nat} {s_least_in : Sp}
    {k_least_in : Nat} (c_least_in : Cal P w K mg base k_least_in "least_in" ["tree", "low", "high"] s_least_in) (h_least_in : k_least_in ≤ k) (z_max : mg "max" = none) (z_min : mg "min" = none)
    (f : Addr) (cdv : Value) (A : Around) (outer : List Env) (s : Shared) (H : Hp) (E : XK) (hr : Room k (A.deeper (envOfC "least_in" (defScope st_least_in) s.heap.objs.size f cdv))) :
    PSs (cxOf (L2.CX P w) P w K mg base ["tree", "low", "high", "half", "ahead", "behind", "number"] "least_in" (defScope st_least_in) f cdv A outer s H E) (defBody st_least_in) (t_least_in K s_least_in E) :=
  (pss_cons (ps_set (i := 1) sc_least_in.nd rfl (Or.inl rfl) (pe_callB (cMax rfl) rfl z_max (by decide +kernel) (pa_cons (pv 1) (pa_cons pe_int pa_nil))))
    (pss_cons (ps_set (i := 2) sc_least_in.nd rfl (Or.inl rfl) (pe_callB (cMin rfl) rfl z_min (by decide +kernel) (pa_cons (pv 2) (pa_cons (pe_fld (pv 0) rfl) pa_nil))))
    (pss_cons (ps_if (pt_cmpR oGe (pv 1) (pv 2) (nomark _)) (pss_one (ps_ret pe_non)) pss_nil)
    (pss_cons (ps_if (PW.pt (pw_or (pt_cmpR oIs (pe_fld (pv 0) rfl) pe_non (nomark _)) (pw_or1 (pt_cmpR op_eq (pe_op oSub (pv 2) (pv 1)) (pe_fld (pv 0) rfl) (nomark _))))) (pss_one (ps_ret (pe_fld (pv 0) rfl))) pss_nil)
    (pss_cons (ps_set (i := 3) sc_least_in.nd rfl (Or.inl rfl) (pe_fld (pe_fld (pv 0) rfl) rfl))
    (pss_cons (ps_set (i := 4) sc_least_in.nd rfl (Or.inl rfl) (pe_callC c_least_in hr (by omega) rfl pass_own (pa_cons (pe_fld (pv 0) rfl) (pa_cons (pv 1) (pa_cons (pv 2) pa_nil)))))
    (pss_cons (ps_set (i := 5) sc_least_in.nd rfl (Or.inl rfl) (pe_callC c_least_in hr (by omega) rfl pass_own (pa_cons (pe_fld (pv 0) rfl) (pa_cons (pe_op oSub (pv 1) (pv 3)) (pa_cons (pe_op oSub (pv 2) (pv 3)) pa_nil)))))
    (pss_one (ps_ret (pe_op oAdd (pe_callB (cr_min rfl) rfl z_min (by decide +kernel) (pa_cons (pe_lc (own := [("number", 6)]) (g := gName 6) (tt := (tTest (tOp nIsNot (tVar 6) (tC .non)))) (te := (tVar 6)) rfl sc_least_in.nd (pi_tup (pe_tup (pa_cons (pv 4) (pa_cons (pv 5) pa_nil)))) (blkOk_by (own := [("number", 6)]) (N := ["tree", "low", "high", "half", "ahead", "behind", "number"]) (sc := defScope st_least_in) (by decide +kernel)) (fun _ _ _ _ _ => pg_name (i := 6) sc_least_in.nd rfl (Or.inl rfl)) (fun _ _ _ _ _ => (pts_one (pt_cmpR oIsNot (pv 6) pe_non (nomark _)))) (fun _ _ _ _ _ => (pv 6))) pa_nil)) (pe_fld (pv 0) rfl)))))))))))
theorem sc_first_in : FnScope ["tree", "low", "bound", "at", "half"] ["tree", "low", "bound"] (defScope st_first_in) := ⟨rfl, rfl, rfl, by decide +kernel, rfl, by decide +kernel, by decide +kernel⟩
theorem d_first_in {P : Program} {w : World} {K : PySem.W.Frag} {mg : Str → Option Value} {base : Heap} {k : Nat} {s_first_in : Sp}
    {k_first_in : Nat} (c_first_in : Cal P w K mg base k_first_in "first_in" ["tree", "low", "bound"] s_first_in) (h_first_in : k_first_in ≤ k) (z_max : mg "max" = none)
    (f : Addr) (cdv : Value) (A : Around) (outer : List Env) (s : Shared) (H : Hp) (E : XK) (hr : Room k (A.deeper (envOfC "first_in" (defScope st_first_in) s.heap.objs.size f cdv))) :
    PSs (cxOf (L2.CX P w) P w K mg base ["tree", "low", "bound", "at", "half"] "first_in" (defScope st_first_in) f cdv A outer s H E) (defBody st_first_in) (t_first_in K s_first_in E) :=
  (pss_cons (ps_if (PW.pt (pw_or (pt_cmpR oGe (pv 1) (pe_fld (pv 0) rfl) (nomark _)) (pw_or1 (pt_cmpR oGt (pe_fld (pv 0) rfl) (pv 2) (nomark _))))) (pss_one (ps_ret pe_non)) pss_nil)
    (pss_cons (ps_if (pt_cmpR oIs (pe_fld (pv 0) rfl) pe_non (nomark _)) (pss_one (ps_ret (pe_callB (cMax rfl) rfl z_max (by decide +kernel) (pa_cons (pv 1) (pa_cons pe_int pa_nil))))) pss_nil)
    (pss_cons (ps_set (i := 3) sc_first_in.nd rfl (Or.inl rfl) (pe_callC c_first_in hr (by omega) rfl pass_own (pa_cons (pe_fld (pv 0) rfl) (pa_cons (pv 1) (pa_cons (pe_op oSub (pv 2) (pe_fld (pv 0) rfl)) pa_nil)))))
    (pss_cons (ps_if (pt_cmpR oIsNot (pv 3) pe_non (nomark _)) (pss_one (ps_ret (pv 3))) pss_nil)
    (pss_cons (ps_set (i := 4) sc_first_in.nd rfl (Or.inl rfl) (pe_fld (pe_fld (pv 0) rfl) rfl))
    (pss_cons (ps_set (i := 3) sc_first_in.nd rfl (Or.inl rfl) (pe_callC c_first_in hr (by omega) rfl pass_own (pa_cons (pe_fld (pv 0) rfl) (pa_cons (pe_op oSub (pv 1) (pv 4)) (pa_cons (pe_op oSub (pv 2) (pe_fld (pv 0) rfl)) pa_nil)))))
    (pss_one (ps_ret (pe_ifExp (pt_cmpR oIs (pv 3) pe_non (nomark _)) pe_non (pe_op oAdd (pv 4) (pv 3)))))))))))
theorem sc_numbers_in : FnScope ["tree", "low", "high", "above", "half", "ahead", "behind"] ["tree", "low", "high", "above"] (defScope st_numbers_in) := ⟨rfl, rfl, rfl, by decide +kernel, rfl, by decide +kernel, by decide +kernel⟩
theorem d_numbers_in {P : Program} {w : World} {K : PySem.W.Frag} {mg : Str → Option Value} {base : Heap} {k : Nat} {s_numbers_in : Sp}
    {k_numbers_in : Nat} (c_numbers_in : CalD P w K mg base k_numbers_in "numbers_in" ["tree", "low", "high", "above"] [.int 0] s_numbers_in) (h_numbers_in : k_numbers_in ≤ k) (z_max : mg "max" = none) (z_min : mg "min" = none)
    (f : Addr) (cdv : Value) (A : Around) (outer : List Env) (s : Shared) (H : Hp) (E : XK) (hr : Room k (A.deeper (envOfC "numbers_in" (defScope st_numbers_in) s.heap.objs.size f cdv))) :
    PSs (cxOf (L2.CX P w) P w K mg base ["tree", "low", "high", "above", "half", "ahead", "behind"] "numbers_in" (defScope st_numbers_in) f cdv A outer s H E) (defBody st_numbers_in) (t_numbers_in K s_numbers_in E) :=
  (pss_cons (ps_set (i := 1) sc_numbers_in.nd rfl (Or.inl rfl) (pe_callB (cMax rfl) rfl z_max (by decide +kernel) (pa_cons (pv 1) (pa_cons pe_int pa_nil))))
    (pss_cons (ps_set (i := 2) sc_numbers_in.nd rfl (Or.inl rfl) (pe_callB (cMin rfl) rfl z_min (by decide +kernel) (pa_cons (pv 2) (pa_cons (pe_fld (pv 0) rfl) pa_nil))))
    (pss_cons (ps_if (pt_cmpR oGe (pv 1) (pv 2) (nomark _)) (pss_one (ps_ret (pe_lst pa_nil))) pss_nil)
    (pss_cons (ps_if (pt_cmpR oIs (pe_fld (pv 0) rfl) pe_non (nomark _)) (pss_one (ps_ret (pe_op op_rep (pe_lst (pa_cons (pe_op oAdd (pe_fld (pv 0) rfl) (pv 3)) pa_nil)) (pe_op oSub (pv 2) (pv 1))))) pss_nil)
    (pss_cons (ps_set (i := 4) sc_numbers_in.nd rfl (Or.inl rfl) (pe_fld (pe_fld (pv 0) rfl) rfl))
    (pss_cons (ps_set (i := 5) sc_numbers_in.nd rfl (Or.inl rfl) (pe_callC c_numbers_in.cal hr (by omega) rfl pass_own (pa_cons (pe_fld (pv 0) rfl) (pa_cons (pv 1) (pa_cons (pv 2) (pa_cons (pe_op oAdd (pv 3) (pe_fld (pv 0) rfl)) pa_nil))))))
    (pss_cons (ps_set (i := 6) sc_numbers_in.nd rfl (Or.inl rfl) (pe_callC c_numbers_in.cal hr (by omega) rfl pass_own (pa_cons (pe_fld (pv 0) rfl) (pa_cons (pe_op oSub (pv 1) (pv 4)) (pa_cons (pe_op oSub (pv 2) (pv 4)) (pa_cons (pe_op oAdd (pv 3) (pe_fld (pv 0) rfl)) pa_nil))))))
    (pss_one (ps_ret (pe_op op_cat (pv 5) (pv 6)))))))))))
theorem sc_changed_in : FnScope ["tree", "low", "high", "above", "change", "left", "right", "half", "ahead", "behind"] ["tree", "low", "high", "above", "change"] (defScope st_changed_in) := ⟨rfl, rfl, rfl, by decide +kernel, rfl, by decide +kernel, by decide +kernel⟩
theorem d_changed_in {P : Program} {w : World} {K : PySem.W.Frag} {mg : Str → Option Value} {base : Heap} {k : Nat} {f_ : Addr} {F_ : LF} {fr_ : List Str} {ws_ : List (Option V)} {s_halves : Sp} {s_joined : Sp} {s_changed_in : Sp} {s_change : Sp}
    {k_halves : Nat} (c_halves : Cal P w K mg base k_halves "halves" ["tree"] s_halves) (h_halves : k_halves ≤ k) {k_joined : Nat} (c_joined : Cal P w K mg base k_joined "joined" ["left", "right", "more"] s_joined) (h_joined : k_joined ≤ k) {k_changed_in : Nat} (c_changed_in : CalG P w K mg base k_changed_in "changed_in" ["tree", "low", "high", "above", "change"] (GL f_ F_ fr_ ws_) s_changed_in) (h_changed_in : k_changed_in ≤ k) {k_change : Nat} (lk : LOk P w K mg base k_change f_ F_ fr_ ws_ s_change) (h_change : k_change ≤ k) (z_max : mg "max" = none) (z_min : mg "min" = none)
    (f : Addr) (cdv : Value) (A : Around) (outer : List Env) (s : Shared) (H : Hp) (E : XK) (hG : GL f_ F_ fr_ ws_ outer s H) (hr : Room k (A.deeper (envOfC "changed_in" (defScope st_changed_in) s.heap.objs.size f cdv))) :
    PSs (cxOf (L2.CX P w) P w K mg base ["tree", "low", "high", "above", "change", "left", "right", "half", "ahead", "behind"] "changed_in" (defScope st_changed_in) f cdv A outer s H E) (defBody st_changed_in) (t_changed_in K s_halves s_joined s_changed_in f_ F_ s_change E) :=
  (pss_cons (ps_set (i := 1) sc_changed_in.nd rfl (Or.inl rfl) (pe_callB (cMax rfl) rfl z_max (by decide +kernel) (pa_cons (pv 1) (pa_cons pe_int pa_nil))))
    (pss_cons (ps_set (i := 2) sc_changed_in.nd rfl (Or.inl rfl) (pe_callB (cMin rfl) rfl z_min (by decide +kernel) (pa_cons (pv 2) (pa_cons (pe_fld (pv 0) rfl) pa_nil))))
    (pss_cons (ps_if (pt_cmpR oGe (pv 1) (pv 2) (nomark _)) (pss_one (ps_ret (pv 0))) pss_nil)
    (pss_cons (ps_if (pt_cmpR op_eq (pe_op oSub (pv 2) (pv 1)) (pe_fld (pv 0) rfl) (nomark _)) (pss_one (ps_ret (pe_callV lk hr (by omega) (fun _ _ _ _ I => hG.later I) rfl (Or.inl rfl) pass_own (pa_cons (pv 0) (pa_cons (pv 3) pa_nil))))) pss_nil)
    (pss_cons (ps_asg (pe_callC c_halves hr (by omega) rfl pass_own (pa_cons (pv 0) pa_nil)) (pg_tup rfl (pgs_cons (pg_name (i := 5) sc_changed_in.nd rfl (Or.inl rfl)) (pgs_cons (pg_name (i := 6) sc_changed_in.nd rfl (Or.inl rfl)) pgs_nil))))
    (pss_cons (ps_set (i := 7) sc_changed_in.nd rfl (Or.inl rfl) (pe_fld (pv 5) rfl))
    (pss_cons (ps_set (i := 8) sc_changed_in.nd rfl (Or.inl rfl) (pe_callG c_changed_in hr (by omega) (fun _ _ _ _ I => hG.later I) rfl pass_own (pa_cons (pv 5) (pa_cons (pv 1) (pa_cons (pv 2) (pa_cons (pe_op oAdd (pv 3) (pe_fld (pv 0) rfl)) (pa_cons (pv 4) pa_nil)))))))
    (pss_cons (ps_set (i := 9) sc_changed_in.nd rfl (Or.inl rfl) (pe_callG c_changed_in hr (by omega) (fun _ _ _ _ I => hG.later I) rfl pass_own (pa_cons (pv 6) (pa_cons (pe_op oSub (pv 1) (pv 7)) (pa_cons (pe_op oSub (pv 2) (pv 7)) (pa_cons (pe_op oAdd (pv 3) (pe_fld (pv 0) rfl)) (pa_cons (pv 4) pa_nil)))))))
    (pss_one (ps_ret (pe_callC c_joined hr (by omega) rfl pass_own (pa_cons (pv 8) (pa_cons (pv 9) (pa_cons (pe_fld (pv 0) rfl) pa_nil))))))))))))))
theorem sc_total : FnScope ["book", "low", "high"] ["book", "low", "high"] (defScope st_total) := ⟨rfl, rfl, rfl, by decide +kernel, rfl, by decide +kernel, by decide +kernel⟩
theorem d_total {P : Program} {w : World} {K : PySem.W.Frag} {mg : Str → Option Value} {base : Heap} {k : Nat} {s_check_stretch : Sp} {s_total_in : Sp}
    {k_check_stretch : Nat} (c_check_stretch : Cal P w K mg base k_check_stretch "check_stretch" ["book", "low", "high"] s_check_stretch) (h_check_stretch : k_check_stretch ≤ k) {k_total_in : Nat} (c_total_in : Cal P w K mg base k_total_in "total_in" ["tree", "low", "high"] s_total_in) (h_total_in : k_total_in ≤ k)
    (f : Addr) (cdv : Value) (A : Around) (outer : List Env) (s : Shared) (H : Hp) (E : XK) (hr : Room k (A.deeper (envOfC "total" (defScope st_total) s.heap.objs.size f cdv))) :
    PSs (cxOf (L2.CX P w) P w K mg base ["book", "low", "high"] "total" (defScope st_total) f cdv A outer s H E) (defBody st_total) (t_total s_check_stretch s_total_in E) :=
  (pss_cons (ps_expr (pe_callC c_check_stretch hr (by omega) rfl pass_own (pa_cons (pv 0) (pa_cons (pv 1) (pa_cons (pv 2) pa_nil)))))
    (pss_one (ps_ret (pe_callC c_total_in hr (by omega) rfl pass_own (pa_cons (pv 0) (pa_cons (pv 1) (pa_cons (pv 2) pa_nil)))))))
theorem sc_least : FnScope ["book", "low", "high"] ["book", "low", "high"] (defScope st_least) := ⟨rfl, rfl, rfl, by decide +kernel, rfl, by decide +kernel, by decide +kernel⟩
theorem d_least {P : Program} {w : World} {K : PySem.W.Frag} {mg : Str → Option Value} {base : Heap} {k : Nat} {C_Nothing : Addr} {s_check_stretch : Sp} {s_least_in : Sp}
    {k_check_stretch : Nat} (c_check_stretch : Cal P w K mg base k_check_stretch "check_stretch" ["book", "low", "high"] s_check_stretch) (h_check_stretch : k_check_stretch ≤ k) {k_least_in : Nat} (c_least_in : Cal P w K mg base k_least_in "least_in" ["tree", "low", "high"] s_least_in) (h_least_in : k_least_in ≤ k) (x_Nothing : ExcAt K mg "Nothing" C_Nothing)
    (f : Addr) (cdv : Value) (A : Around) (outer : List Env) (s : Shared) (H : Hp) (E : XK) (hr : Room k (A.deeper (envOfC "least" (defScope st_least) s.heap.objs.size f cdv))) :
    PSs (cxOf (L2.CX P w) P w K mg base ["book", "low", "high"] "least" (defScope st_least) f cdv A outer s H E) (defBody st_least) (t_least C_Nothing s_check_stretch s_least_in E) :=
  (pss_cons (ps_expr (pe_callC c_check_stretch hr (by omega) rfl pass_own (pa_cons (pv 0) (pa_cons (pv 1) (pa_cons (pv 2) pa_nil)))))
    (pss_cons (ps_if (pt_cmpR op_eq (pv 1) (pv 2) (nomark _)) (pss_one (ps_raiseC x_Nothing rfl)) pss_nil)
    (pss_one (ps_ret (pe_callC c_least_in hr (by omega) rfl pass_own (pa_cons (pv 0) (pa_cons (pv 1) (pa_cons (pv 2) pa_nil))))))))
theorem sc_place : FnScope ["book", "low", "high"] ["book", "low", "high"] (defScope st_place) := ⟨rfl, rfl, rfl, by decide +kernel, rfl, by decide +kernel, by decide +kernel⟩
theorem d_place {P : Program} {w : World} {K : PySem.W.Frag} {mg : Str → Option Value} {base : Heap} {k : Nat} {s_least : Sp} {s_first_in : Sp}
    {k_least : Nat} (c_least : Cal P w K mg base k_least "least" ["book", "low", "high"] s_least) (h_least : k_least ≤ k) {k_first_in : Nat} (c_first_in : Cal P w K mg base k_first_in "first_in" ["tree", "low", "bound"] s_first_in) (h_first_in : k_first_in ≤ k)
    (f : Addr) (cdv : Value) (A : Around) (outer : List Env) (s : Shared) (H : Hp) (E : XK) (hr : Room k (A.deeper (envOfC "place" (defScope st_place) s.heap.objs.size f cdv))) :
    PSs (cxOf (L2.CX P w) P w K mg base ["book", "low", "high"] "place" (defScope st_place) f cdv A outer s H E) (defBody st_place) (t_place s_least s_first_in E) :=
  (pss_one (ps_ret (pe_callC c_first_in hr (by omega) rfl pass_own (pa_cons (pv 0) (pa_cons (pv 1) (pa_cons (pe_callC c_least hr (by omega) rfl pass_own (pa_cons (pv 0) (pa_cons (pv 1) (pa_cons (pv 2) pa_nil)))) pa_nil))))))
theorem sc_first : FnScope ["book", "low", "bound"] ["book", "low", "bound"] (defScope st_first) := ⟨rfl, rfl, rfl, by decide +kernel, rfl, by decide +kernel, by decide +kernel⟩
theorem d_first {P : Program} {w : World} {K : PySem.W.Frag} {mg : Str → Option Value} {base : Heap} {k : Nat} {s_check_stretch : Sp} {s_first_in : Sp}
    {k_check_stretch : Nat} (c_check_stretch : Cal P w K mg base k_check_stretch "check_stretch" ["book", "low", "high"] s_check_stretch) (h_check_stretch : k_check_stretch ≤ k) {k_first_in : Nat} (c_first_in : Cal P w K mg base k_first_in "first_in" ["tree", "low", "bound"] s_first_in) (h_first_in : k_first_in ≤ k)
    (f : Addr) (cdv : Value) (A : Around) (outer : List Env) (s : Shared) (H : Hp) (E : XK) (hr : Room k (A.deeper (envOfC "first" (defScope st_first) s.heap.objs.size f cdv))) :
    PSs (cxOf (L2.CX P w) P w K mg base ["book", "low", "bound"] "first" (defScope st_first) f cdv A outer s H E) (defBody st_first) (t_first K s_check_stretch s_first_in E) :=
  (pss_cons (ps_expr (pe_callC c_check_stretch hr (by omega) rfl pass_own (pa_cons (pv 0) (pa_cons (pv 1) (pa_cons (pe_fld (pv 0) rfl) pa_nil)))))
    (pss_one (ps_ret (pe_callC c_first_in hr (by omega) rfl pass_own (pa_cons (pv 0) (pa_cons (pv 1) (pa_cons (pv 2) pa_nil)))))))
theorem sc_even : FnScope ["many", "number"] ["many", "number"] (defScope st_even) := ⟨rfl, rfl, rfl, by decide +kernel, rfl, by decide +kernel, by decide +kernel⟩
theorem d_even {P : Program} {w : World} {K : PySem.W.Frag} {mg : Str → Option Value} {base : Heap} {k : Nat} {C_NoRow : Addr} {s_even_tree : Sp}
    {k_even_tree : Nat} (c_even_tree : Cal P w K mg base k_even_tree "even_tree" ["many", "number"] s_even_tree) (h_even_tree : k_even_tree ≤ k) (x_NoRow : ExcAt K mg "NoRow" C_NoRow) (n_MOST_PLACES : ∃ t, mg "MOST_PLACES" = some (.int 1000000000000 t))
    (f : Addr) (cdv : Value) (A : Around) (outer : List Env) (s : Shared) (H : Hp) (E : XK) (hr : Room k (A.deeper (envOfC "even" (defScope st_even) s.heap.objs.size f cdv))) :
    PSs (cxOf (L2.CX P w) P w K mg base ["many", "number"] "even" (defScope st_even) f cdv A outer s H E) (defBody st_even) (t_even C_NoRow s_even_tree E) :=
  (pss_cons (ps_if (PW.pt (pw_or (pt_cmpR oLt (pv 0) pe_int (nomark _)) (pw_or1 (pt_cmpR oGt (pv 0) (pe_num rfl n_MOST_PLACES) (nomark _))))) (pss_one (ps_raiseC x_NoRow rfl)) pss_nil)
    (pss_one (ps_ret (pe_callC c_even_tree hr (by omega) rfl pass_own (pa_cons (pv 0) (pa_cons (pv 1) pa_nil))))))
theorem sc_listed : FnScope ["book", "low", "high"] ["book", "low", "high"] (defScope st_listed) := ⟨rfl, rfl, rfl, by decide +kernel, rfl, by decide +kernel, by decide +kernel⟩
theorem d_listed {P : Program} {w : World} {K : PySem.W.Frag} {mg : Str → Option Value} {base : Heap} {k : Nat} {C_TooMany : Addr} {s_check_stretch : Sp} {s_numbers_in : Sp}
    {k_check_stretch : Nat} (c_check_stretch : Cal P w K mg base k_check_stretch "check_stretch" ["book", "low", "high"] s_check_stretch) (h_check_stretch : k_check_stretch ≤ k) {k_numbers_in : Nat} (c_numbers_in : CalD P w K mg base k_numbers_in "numbers_in" ["tree", "low", "high", "above"] [.int 0] s_numbers_in) (h_numbers_in : k_numbers_in ≤ k) (x_TooMany : ExcAt K mg "TooMany" C_TooMany) (n_MOST_LISTED : ∃ t, mg "MOST_LISTED" = some (.int 1000 t))
    (f : Addr) (cdv : Value) (A : Around) (outer : List Env) (s : Shared) (H : Hp) (E : XK) (hr : Room k (A.deeper (envOfC "listed" (defScope st_listed) s.heap.objs.size f cdv))) :
    PSs (cxOf (L2.CX P w) P w K mg base ["book", "low", "high"] "listed" (defScope st_listed) f cdv A outer s H E) (defBody st_listed) (t_listed C_TooMany s_check_stretch s_numbers_in E) :=
  (pss_cons (ps_expr (pe_callC c_check_stretch hr (by omega) rfl pass_own (pa_cons (pv 0) (pa_cons (pv 1) (pa_cons (pv 2) pa_nil)))))
    (pss_cons (ps_if (pt_cmpR oGt (pe_op oSub (pv 2) (pv 1)) (pe_num rfl n_MOST_LISTED) (nomark _)) (pss_one (ps_raiseC x_TooMany rfl)) pss_nil)
    (pss_one (ps_ret (pe_callD c_numbers_in hr (by omega) rfl pass_own (pa_cons (pv 0) (pa_cons (pv 1) (pa_cons (pv 2) pa_nil))))))))
theorem sc_added : FnScope ["book", "low", "high", "by"] ["book", "low", "high", "by"] (defScope st_added) := ⟨rfl, rfl, rfl, by decide +kernel, rfl, by decide +kernel, by decide +kernel⟩
theorem d_added {P : Program} {w : World} {K : PySem.W.Frag} {mg : Str → Option Value} {base : Heap} {k : Nat} {s_check_stretch : Sp} {s_added_in : Sp}
    {k_check_stretch : Nat} (c_check_stretch : Cal P w K mg base k_check_stretch "check_stretch" ["book", "low", "high"] s_check_stretch) (h_check_stretch : k_check_stretch ≤ k) {k_added_in : Nat} (c_added_in : Cal P w K mg base k_added_in "added_in" ["tree", "low", "high", "by"] s_added_in) (h_added_in : k_added_in ≤ k)
    (f : Addr) (cdv : Value) (A : Around) (outer : List Env) (s : Shared) (H : Hp) (E : XK) (hr : Room k (A.deeper (envOfC "added" (defScope st_added) s.heap.objs.size f cdv))) :
    PSs (cxOf (L2.CX P w) P w K mg base ["book", "low", "high", "by"] "added" (defScope st_added) f cdv A outer s H E) (defBody st_added) (t_added s_check_stretch s_added_in E) :=
  (pss_cons (ps_expr (pe_callC c_check_stretch hr (by omega) rfl pass_own (pa_cons (pv 0) (pa_cons (pv 1) (pa_cons (pv 2) pa_nil)))))
    (pss_one (ps_ret (pe_callC c_added_in hr (by omega) rfl pass_own (pa_cons (pv 0) (pa_cons (pv 1) (pa_cons (pv 2) (pa_cons (pv 3) pa_nil))))))))
theorem sc_filled : FnScope ["book", "low", "high", "number"] ["book", "low", "high", "number"] (defScope st_filled) := ⟨rfl, rfl, rfl, by decide +kernel, rfl, by decide +kernel, by decide +kernel⟩
theorem d_filled {P : Program} {w : World} {K : PySem.W.Frag} {mg : Str → Option Value} {base : Heap} {k : Nat} {s_check_stretch : Sp} {s_filled_in : Sp}
    {k_check_stretch : Nat} (c_check_stretch : Cal P w K mg base k_check_stretch "check_stretch" ["book", "low", "high"] s_check_stretch) (h_check_stretch : k_check_stretch ≤ k) {k_filled_in : Nat} (c_filled_in : Cal P w K mg base k_filled_in "filled_in" ["tree", "low", "high", "number"] s_filled_in) (h_filled_in : k_filled_in ≤ k)
    (f : Addr) (cdv : Value) (A : Around) (outer : List Env) (s : Shared) (H : Hp) (E : XK) (hr : Room k (A.deeper (envOfC "filled" (defScope st_filled) s.heap.objs.size f cdv))) :
    PSs (cxOf (L2.CX P w) P w K mg base ["book", "low", "high", "number"] "filled" (defScope st_filled) f cdv A outer s H E) (defBody st_filled) (t_filled s_check_stretch s_filled_in E) :=
  (pss_cons (ps_expr (pe_callC c_check_stretch hr (by omega) rfl pass_own (pa_cons (pv 0) (pa_cons (pv 1) (pa_cons (pv 2) pa_nil)))))
    (pss_one (ps_ret (pe_callC c_filled_in hr (by omega) rfl pass_own (pa_cons (pv 0) (pa_cons (pv 1) (pa_cons (pv 2) (pa_cons (pv 3) pa_nil))))))))
theorem sc_l_whole : FnScope ["_law_found"] ["_law_found"] (defScope st_l_whole) := ⟨rfl, rfl, rfl, by decide +kernel, rfl, by decide +kernel, by decide +kernel⟩
theorem d_l_whole {P : Program} {w : World} {K : PySem.W.Frag} {mg : Str → Option Value} {base : Heap} {k : Nat} 
    (z_int : mg "int" = none) (z_isinstance : mg "isinstance" = none) (z_bool : mg "bool" = none)
    (f : Addr) (cdv : Value) (A : Around) (outer : List Env) (s : Shared) (H : Hp) (E : XK) (hr : Room k (A.deeper (envOfC "_law_whole" (defScope st_l_whole) s.heap.objs.size f cdv))) :
    PSs (cxOf (L2.CX P w) P w K mg base ["_law_found"] "_law_whole" (defScope st_l_whole) f cdv A outer s H E) (defBody st_l_whole) (t_l_whole K E) :=
  (pss_one (ps_ret (pe_and (pe_callB call_isi rfl z_isinstance (by decide +kernel) (pa_cons (pv 0) (pa_cons (pe_bltn (v := .ty "int") rfl z_int boot_int rfl) pa_nil))) (pe_one (pe_not (pe_callB call_isi rfl z_isinstance (by decide +kernel) (pa_cons (pv 0) (pa_cons (pe_bltn (v := .ty "bool") rfl z_bool boot_bool rfl) pa_nil))))))))
theorem sc_l_cell_at : FnScope ["_law_script", "_law_k"] ["_law_script", "_law_k"] (defScope st_l_cell_at) := ⟨rfl, rfl, rfl, by decide +kernel, rfl, by decide +kernel, by decide +kernel⟩
theorem d_l_cell_at {P : Program} {w : World} {K : PySem.W.Frag} {mg : Str → Option Value} {base : Heap} {k : Nat} 
    (z_len : mg "len" = none)
    (f : Addr) (cdv : Value) (A : Around) (outer : List Env) (s : Shared) (H : Hp) (E : XK) (hr : Room k (A.deeper (envOfC "_law_cell_at" (defScope st_l_cell_at) s.heap.objs.size f cdv))) :
    PSs (cxOf (L2.CX P w) P w K mg base ["_law_script", "_law_k"] "_law_cell_at" (defScope st_l_cell_at) f cdv A outer s H E) (defBody st_l_cell_at) (t_l_cell_at K E) :=
  (pss_cons (ps_if (pt_cmpR oLt (pv 1) (pe_callB cLen rfl z_len boot_len (pa_cons (pv 0) pa_nil)) (nomark _)) (pss_one (ps_ret (pe_ix ix_list (pv 0) (pv 1) (fun _ _ => rfl)))) pss_nil)
    (pss_one (ps_ret pe_int)))
theorem sc_l_number_by : FnScope ["_law_cell"] ["_law_cell"] (defScope st_l_number_by) := ⟨rfl, rfl, rfl, by decide +kernel, rfl, by decide +kernel, by decide +kernel⟩
theorem d_l_number_by {P : Program} {w : World} {K : PySem.W.Frag} {mg : Str → Option Value} {base : Heap} {k : Nat} 
    
    (f : Addr) (cdv : Value) (A : Around) (outer : List Env) (s : Shared) (H : Hp) (E : XK) (hr : Room k (A.deeper (envOfC "_law_number_by" (defScope st_l_number_by) s.heap.objs.size f cdv))) :
    PSs (cxOf (L2.CX P w) P w K mg base ["_law_cell"] "_law_number_by" (defScope st_l_number_by) f cdv A outer s H E) (defBody st_l_number_by) (t_l_number_by  E) :=
  (pss_cons (ps_if (pt_cmpR op_eq (pe_op oMod (pv 0) pe_int) pe_int (nomark _)) (pss_one (ps_ret (pe_op oMulW (pe_op oMulW (pe_op oMul (pe_op oSub (pe_op oMod (pe_op oDiv (pv 0) pe_int) pe_int) pe_int) (pe_op oPow pe_int pe_int)) (pe_op oPow pe_int pe_int)) (pe_op oPow pe_int pe_int)))) pss_nil)
    (pss_cons (ps_if (pt_cmpR op_eq (pe_op oMod (pv 0) pe_int) pe_int (nomark _)) (pss_one (ps_ret (pe_op oSub (pe_op oMod (pe_op oDiv (pv 0) pe_int) (pe_op oAdd (pe_op oMul pe_int (pe_op oPow pe_int pe_int)) pe_int)) (pe_op oPow pe_int pe_int)))) pss_nil)
    (pss_cons (ps_if (pt_cmpR op_eq (pe_op oMod (pv 0) pe_int) pe_int (nomark _)) (pss_one (ps_ret (pe_op oSub (pe_op oMod (pe_op oDiv (pv 0) pe_int) pe_int) pe_int))) pss_nil)
    (pss_one (ps_ret (pe_op oSub (pe_op oMod (pe_op oDiv (pv 0) pe_int) pe_int) pe_int))))))
theorem sc_l_end_by13 : FnScope ["_law_cell", "_law_ends", "_law_many", "_law_at"] ["_law_cell", "_law_ends", "_law_many"] (defScope st_l_end_by13) := ⟨rfl, rfl, rfl, by decide +kernel, rfl, by decide +kernel, by decide +kernel⟩
theorem d_l_end_by13 {P : Program} {w : World} {K : PySem.W.Frag} {mg : Str → Option Value} {base : Heap} {k : Nat} 
    (z_len : mg "len" = none) (z_max : mg "max" = none) (z_min : mg "min" = none)
    (f : Addr) (cdv : Value) (A : Around) (outer : List Env) (s : Shared) (H : Hp) (E : XK) (hr : Room k (A.deeper (envOfC "_law_end_by" (defScope st_l_end_by13) s.heap.objs.size f cdv))) :
    PSs (cxOf (L2.CX P w) P w K mg base ["_law_cell", "_law_ends", "_law_many", "_law_at"] "_law_end_by" (defScope st_l_end_by13) f cdv A outer s H E) (defBody st_l_end_by13) (t_l_end_by13 K E) :=
  (pss_cons (ps_set (i := 3) sc_l_end_by13.nd rfl (Or.inl rfl) (pe_op oMod (pe_op oMul (pe_op oDiv (pv 0) pe_int) pe_int) (pe_op oAdd (pv 2) pe_int)))
    (pss_cons (ps_if (PW.pt (pw_or (pt_cmpR op_eq (pe_op oMod (pv 0) pe_int) pe_int (nomark _)) (pw_or1 (pt_cmpR op_eq (pe_op oMod (pv 0) pe_int) pe_int (nomark _))))) (pss_one (ps_set (i := 3) sc_l_end_by13.nd rfl (Or.inl rfl) (pe_op oSub (pe_op oAdd (pe_ix ix_list (pv 1) (pe_op oMod (pe_op oDiv (pv 0) pe_int) (pe_callB cLen rfl z_len boot_len (pa_cons (pv 1) pa_nil))) (fun _ _ => rfl)) (pe_op oMod (pe_op oDiv (pv 0) pe_int) pe_int)) pe_int))) pss_nil)
    (pss_one (ps_ret (pe_callB (cMin rfl) rfl z_min (by decide +kernel) (pa_cons (pe_callB (cMax rfl) rfl z_max (by decide +kernel) (pa_cons (pv 3) (pa_cons pe_int pa_nil))) (pa_cons (pv 2) pa_nil)))))))
theorem sc_l_least_of : FnScope ["_law_some", "_law_found", "_law_one"] ["_law_some"] (defScope st_l_least_of) := ⟨rfl, rfl, rfl, by decide +kernel, rfl, by decide +kernel, by decide +kernel⟩
theorem d_l_least_of {P : Program} {w : World} {K : PySem.W.Frag} {mg : Str → Option Value} {base : Heap} {k : Nat} {s_l_whole : Sp}
    {k_l_whole : Nat} (c_l_whole : Cal P w K mg base k_l_whole "_law_whole" ["_law_found"] s_l_whole) (h_l_whole : k_l_whole ≤ k)
    (f : Addr) (cdv : Value) (A : Around) (outer : List Env) (s : Shared) (H : Hp) (E : XK) (hr : Room k (A.deeper (envOfC "_law_least_of" (defScope st_l_least_of) s.heap.objs.size f cdv))) :
    PSs (cxOf (L2.CX P w) P w K mg base ["_law_some", "_law_found", "_law_one"] "_law_least_of" (defScope st_l_least_of) f cdv A outer s H E) (defBody st_l_least_of) (t_l_least_of K s_l_whole E) :=
  (pss_cons (ps_set (i := 1) sc_l_least_of.nd rfl (Or.inl rfl) pe_non)
    (pss_cons (ps_for (passes_of rfl) rfl (pi_list (pv 0)) (pg_name (i := 2) sc_l_least_of.nd rfl (Or.inl rfl))
    (pss_cons (ps_if (pt_not (pt_val (pe_callC c_l_whole hr (by omega) rfl pass_own (pa_cons (pv 2) pa_nil)))) (pss_one (ps_ret pe_non)) pss_nil)
    (pss_one (ps_if (PW.pt (pw_or (pt_cmpR oIs (pv 1) pe_non (nomark _)) (pw_or1 (pt_cmpR oLt (pv 2) (pv 1) (nomark _))))) (pss_one (ps_set (i := 1) sc_l_least_of.nd rfl (Or.inl rfl) (pv 2))) pss_nil))))
    (pss_one (ps_ret (pv 1)))))
theorem sc_l_changed13 : FnScope ["_law_ahead", "_law_book", "_law_word", "_law_deed", "_law_begin", "_law_ending", "_law_low", "_law_high", "_law_wide", "_law_due", "_law_some", "_law_found"] ["_law_ahead", "_law_book", "_law_word", "_law_deed", "_law_begin", "_law_ending"] (defScope st_l_changed13) := ⟨rfl, rfl, rfl, by decide +kernel, rfl, by decide +kernel, by decide +kernel⟩
theorem d_l_changed13 {P : Program} {w : World} {K : PySem.W.Frag} {mg : Str → Option Value} {base : Heap} {k : Nat} {s_total : Sp} {s_least : Sp} {s_l_whole : Sp} {s_l_least_of : Sp}
    {k_total : Nat} (c_total : Cal P w K mg base k_total "total" ["book", "low", "high"] s_total) (h_total : k_total ≤ k) {k_least : Nat} (c_least : Cal P w K mg base k_least "least" ["book", "low", "high"] s_least) (h_least : k_least ≤ k) {k_l_whole : Nat} (c_l_whole : Cal P w K mg base k_l_whole "_law_whole" ["_law_found"] s_l_whole) (h_l_whole : k_l_whole ≤ k) {k_l_least_of : Nat} (c_l_least_of : Cal P w K mg base k_l_least_of "_law_least_of" ["_law_some"] s_l_least_of) (h_l_least_of : k_l_least_of ≤ k) (z_max : mg "max" = none) (z_min : mg "min" = none)
    (f : Addr) (cdv : Value) (A : Around) (outer : List Env) (s : Shared) (H : Hp) (E : XK) (hr : Room k (A.deeper (envOfC "_law_changed" (defScope st_l_changed13) s.heap.objs.size f cdv))) :
    PSs (cxOf (L2.CX P w) P w K mg base ["_law_ahead", "_law_book", "_law_word", "_law_deed", "_law_begin", "_law_ending", "_law_low", "_law_high", "_law_wide", "_law_due", "_law_some", "_law_found"] "_law_changed" (defScope st_l_changed13) f cdv A outer s H E) (defBody st_l_changed13) (t_l_changed13 K s_total s_least s_l_whole s_l_least_of E) :=
  (pss_cons (ps_set (i := 6) sc_l_changed13.nd rfl (Or.inl rfl) (pe_callB (cMin rfl) rfl z_min (by decide +kernel) (pa_cons (pe_callB (cMax rfl) rfl z_max (by decide +kernel) (pa_cons (pv 4) (pa_cons (pe_ix ix_tup (pv 3) pe_int (fun _ _ => rfl)) pa_nil))) (pa_cons (pv 5) pa_nil))))
    (pss_cons (ps_set (i := 7) sc_l_changed13.nd rfl (Or.inl rfl) (pe_callB (cMax rfl) rfl z_max (by decide +kernel) (pa_cons (pv 6) (pa_cons (pe_callB (cMin rfl) rfl z_min (by decide +kernel) (pa_cons (pv 5) (pa_cons (pe_ix ix_tup (pv 3) pe_int (fun _ _ => rfl)) pa_nil))) pa_nil))))
    (pss_cons (ps_set (i := 8) sc_l_changed13.nd rfl (Or.inl rfl) (pe_op oSub (pv 7) (pv 6)))
    (pss_cons (ps_set (i := 9) sc_l_changed13.nd rfl (Or.inl rfl) (pe_op oAdd (pe_callC c_total hr (by omega) rfl pass_own (pa_cons (pv 0) (pa_cons (pv 4) (pa_cons (pv 6) pa_nil)))) (pe_callC c_total hr (by omega) rfl pass_own (pa_cons (pv 0) (pa_cons (pv 7) (pa_cons (pv 5) pa_nil))))))
    (pss_cons (ps_set (i := 10) sc_l_changed13.nd rfl (Or.inl rfl) (pe_lst pa_nil))
    (pss_cons (ps_if (pt_cmpR oLt (pv 4) (pv 6) (nomark _)) (pss_one (ps_expr (pe_bm PySem.F.plainAttrs_list PySem.F.slot_list_append PySem.F.type_list_append mt_append (pv 10) (pa_cons (pe_callC c_least hr (by omega) rfl pass_own (pa_cons (pv 0) (pa_cons (pv 4) (pa_cons (pv 6) pa_nil)))) pa_nil)))) pss_nil)
    (pss_cons (ps_if (pt_cmpR oLt (pv 7) (pv 5) (nomark _)) (pss_one (ps_expr (pe_bm PySem.F.plainAttrs_list PySem.F.slot_list_append PySem.F.type_list_append mt_append (pv 10) (pa_cons (pe_callC c_least hr (by omega) rfl pass_own (pa_cons (pv 0) (pa_cons (pv 7) (pa_cons (pv 5) pa_nil)))) pa_nil)))) pss_nil)
    (pss_cons (ps_if (pt_cmpR op_eq (pv 2) pe_str (nomark _)) (pss_cons (ps_set (i := 9) sc_l_changed13.nd rfl (Or.inl rfl) (pe_op oAdd (pe_op oAdd (pv 9) (pe_callC c_total hr (by omega) rfl pass_own (pa_cons (pv 0) (pa_cons (pv 6) (pa_cons (pv 7) pa_nil))))) (pe_op oMul (pv 8) (pe_ix ix_tup (pv 3) pe_int (fun _ _ => rfl)))))
    (pss_one (ps_if (pt_cmpR oLt (pv 6) (pv 7) (nomark _)) (pss_one (ps_expr (pe_bm PySem.F.plainAttrs_list PySem.F.slot_list_append PySem.F.type_list_append mt_append (pv 10) (pa_cons (pe_op oAdd (pe_callC c_least hr (by omega) rfl pass_own (pa_cons (pv 0) (pa_cons (pv 6) (pa_cons (pv 7) pa_nil)))) (pe_ix ix_tup (pv 3) pe_int (fun _ _ => rfl))) pa_nil)))) pss_nil))) (pss_cons (ps_set (i := 9) sc_l_changed13.nd rfl (Or.inl rfl) (pe_op oAdd (pv 9) (pe_op oMul (pv 8) (pe_ix ix_tup (pv 3) pe_int (fun _ _ => rfl)))))
    (pss_one (ps_if (pt_cmpR oLt (pv 6) (pv 7) (nomark _)) (pss_one (ps_expr (pe_bm PySem.F.plainAttrs_list PySem.F.slot_list_append PySem.F.type_list_append mt_append (pv 10) (pa_cons (pe_ix ix_tup (pv 3) pe_int (fun _ _ => rfl)) pa_nil)))) pss_nil))))
    (pss_cons (ps_set (i := 11) sc_l_changed13.nd rfl (Or.inl rfl) (pe_callC c_total hr (by omega) rfl pass_own (pa_cons (pv 1) (pa_cons (pv 4) (pa_cons (pv 5) pa_nil)))))
    (pss_cons (ps_if (PW.pt (pw_or (pt_not (pt_val (pe_callC c_l_whole hr (by omega) rfl pass_own (pa_cons (pv 11) pa_nil)))) (pw_or1 (pt_cmpR op_ne (pv 11) (pv 9) (nomark _))))) (pss_one (ps_ret pe_bl)) pss_nil)
    (pss_one (ps_ret (pe_or (pe_cmpR op_eq (pv 4) (pv 5) (nomark _)) (pe_one (pe_cmpR op_eq (pe_callC c_least hr (by omega) rfl pass_own (pa_cons (pv 1) (pa_cons (pv 4) (pa_cons (pv 5) pa_nil)))) (pe_callC c_l_least_of hr (by omega) rfl pass_own (pa_cons (pv 10) pa_nil)) (nomark _))))))))))))))))
theorem sc_l_cut13 : FnScope ["_law_book", "_law_begin", "_law_cut_here", "_law_ending", "_law_some", "_law_found", "_law_at"] ["_law_book", "_law_begin", "_law_cut_here", "_law_ending"] (defScope st_l_cut13) := ⟨rfl, rfl, rfl, by decide +kernel, rfl, by decide +kernel, by decide +kernel⟩
theorem d_l_cut13 {P : Program} {w : World} {K : PySem.W.Frag} {mg : Str → Option Value} {base : Heap} {k : Nat} {s_total : Sp} {s_least : Sp} {s_place : Sp} {s_l_whole : Sp} {s_l_least_of : Sp} {s_listed : Sp}
    {k_total : Nat} (c_total : Cal P w K mg base k_total "total" ["book", "low", "high"] s_total) (h_total : k_total ≤ k) {k_least : Nat} (c_least : Cal P w K mg base k_least "least" ["book", "low", "high"] s_least) (h_least : k_least ≤ k) {k_place : Nat} (c_place : Cal P w K mg base k_place "place" ["book", "low", "high"] s_place) (h_place : k_place ≤ k) {k_l_whole : Nat} (c_l_whole : Cal P w K mg base k_l_whole "_law_whole" ["_law_found"] s_l_whole) (h_l_whole : k_l_whole ≤ k) {k_l_least_of : Nat} (c_l_least_of : Cal P w K mg base k_l_least_of "_law_least_of" ["_law_some"] s_l_least_of) (h_l_least_of : k_l_least_of ≤ k) {k_listed : Nat} (c_listed : Cal P w K mg base k_listed "listed" ["book", "low", "high"] s_listed) (h_listed : k_listed ≤ k)
    (f : Addr) (cdv : Value) (A : Around) (outer : List Env) (s : Shared) (H : Hp) (E : XK) (hr : Room k (A.deeper (envOfC "_law_cut" (defScope st_l_cut13) s.heap.objs.size f cdv))) :
    PSs (cxOf (L2.CX P w) P w K mg base ["_law_book", "_law_begin", "_law_cut_here", "_law_ending", "_law_some", "_law_found", "_law_at"] "_law_cut" (defScope st_l_cut13) f cdv A outer s H E) (defBody st_l_cut13) (t_l_cut13 K s_total s_least s_place s_l_whole s_l_least_of s_listed E) :=
  (pss_cons (ps_if (pt_cmpR op_ne (pe_op oAdd (pe_callC c_total hr (by omega) rfl pass_own (pa_cons (pv 0) (pa_cons (pv 1) (pa_cons (pv 2) pa_nil)))) (pe_callC c_total hr (by omega) rfl pass_own (pa_cons (pv 0) (pa_cons (pv 2) (pa_cons (pv 3) pa_nil))))) (pe_callC c_total hr (by omega) rfl pass_own (pa_cons (pv 0) (pa_cons (pv 1) (pa_cons (pv 3) pa_nil)))) (nomark _)) (pss_one (ps_ret pe_bl)) pss_nil)
    (pss_cons (ps_if (pt_cmpR op_eq (pv 1) (pv 3) (nomark _)) (pss_one (ps_ret pe_bl)) pss_nil)
    (pss_cons (ps_set (i := 4) sc_l_cut13.nd rfl (Or.inl rfl) (pe_lst pa_nil))
    (pss_cons (ps_if (pt_cmpR oLt (pv 1) (pv 2) (nomark _)) (pss_one (ps_expr (pe_bm PySem.F.plainAttrs_list PySem.F.slot_list_append PySem.F.type_list_append mt_append (pv 4) (pa_cons (pe_callC c_least hr (by omega) rfl pass_own (pa_cons (pv 0) (pa_cons (pv 1) (pa_cons (pv 2) pa_nil)))) pa_nil)))) pss_nil)
    (pss_cons (ps_if (pt_cmpR oLt (pv 2) (pv 3) (nomark _)) (pss_one (ps_expr (pe_bm PySem.F.plainAttrs_list PySem.F.slot_list_append PySem.F.type_list_append mt_append (pv 4) (pa_cons (pe_callC c_least hr (by omega) rfl pass_own (pa_cons (pv 0) (pa_cons (pv 2) (pa_cons (pv 3) pa_nil)))) pa_nil)))) pss_nil)
    (pss_cons (ps_set (i := 5) sc_l_cut13.nd rfl (Or.inl rfl) (pe_callC c_least hr (by omega) rfl pass_own (pa_cons (pv 0) (pa_cons (pv 1) (pa_cons (pv 3) pa_nil)))))
    (pss_cons (ps_set (i := 6) sc_l_cut13.nd rfl (Or.inl rfl) (pe_callC c_place hr (by omega) rfl pass_own (pa_cons (pv 0) (pa_cons (pv 1) (pa_cons (pv 3) pa_nil)))))
    (pss_cons (ps_if (PW.pt (pw_or (pt_not (pt_val (pe_callC c_l_whole hr (by omega) rfl pass_own (pa_cons (pv 5) pa_nil)))) (pw_or (pt_cmpR op_ne (pv 5) (pe_callC c_l_least_of hr (by omega) rfl pass_own (pa_cons (pv 4) pa_nil)) (nomark _)) (pw_or (pt_not (pt_val (pe_callC c_l_whole hr (by omega) rfl pass_own (pa_cons (pv 6) pa_nil)))) (pw_or (pt_cmpR oLt (pv 6) (pv 1) (nomark _)) (pw_or1 (pt_cmpR oGe (pv 6) (pv 3) (nomark _)))))))) (pss_one (ps_ret pe_bl)) pss_nil)
    (pss_cons (ps_if (PW.pt (pw_or (pt_cmpR (op_neD hr.units) (pe_callC c_listed hr (by omega) rfl pass_own (pa_cons (pv 0) (pa_cons (pv 6) (pa_cons (pe_op oAdd (pv 6) pe_int) pa_nil)))) (pe_lst (pa_cons (pv 5) pa_nil)) (nomark _)) (pw_or1 (pt_cmpR op_ne (pe_callC c_total hr (by omega) rfl pass_own (pa_cons (pv 0) (pa_cons (pv 6) (pa_cons (pe_op oAdd (pv 6) pe_int) pa_nil)))) (pv 5) (nomark _))))) (pss_one (ps_ret pe_bl)) pss_nil)
    (pss_one (ps_ret (pe_or (pe_cmpR op_eq (pv 6) (pv 1) (nomark _)) (pe_one (pe_cmpR oGt (pe_callC c_least hr (by omega) rfl pass_own (pa_cons (pv 0) (pa_cons (pv 1) (pa_cons (pv 6) pa_nil)))) (pv 5) (nomark _)))))))))))))))
theorem sc_l_first13 : FnScope ["_law_book", "_law_many", "_law_low", "_law_bound", "_law_at"] ["_law_book", "_law_many", "_law_low", "_law_bound"] (defScope st_l_first13) := ⟨rfl, rfl, rfl, by decide +kernel, rfl, by decide +kernel, by decide +kernel⟩
theorem d_l_first13 {P : Program} {w : World} {K : PySem.W.Frag} {mg : Str → Option Value} {base : Heap} {k : Nat} {s_first : Sp} {s_least : Sp} {s_l_whole : Sp}
    {k_first : Nat} (c_first : Cal P w K mg base k_first "first" ["book", "low", "bound"] s_first) (h_first : k_first ≤ k) {k_least : Nat} (c_least : Cal P w K mg base k_least "least" ["book", "low", "high"] s_least) (h_least : k_least ≤ k) {k_l_whole : Nat} (c_l_whole : Cal P w K mg base k_l_whole "_law_whole" ["_law_found"] s_l_whole) (h_l_whole : k_l_whole ≤ k)
    (f : Addr) (cdv : Value) (A : Around) (outer : List Env) (s : Shared) (H : Hp) (E : XK) (hr : Room k (A.deeper (envOfC "_law_first" (defScope st_l_first13) s.heap.objs.size f cdv))) :
    PSs (cxOf (L2.CX P w) P w K mg base ["_law_book", "_law_many", "_law_low", "_law_bound", "_law_at"] "_law_first" (defScope st_l_first13) f cdv A outer s H E) (defBody st_l_first13) (t_l_first13 s_first s_least s_l_whole E) :=
  (pss_cons (ps_set (i := 4) sc_l_first13.nd rfl (Or.inl rfl) (pe_callC c_first hr (by omega) rfl pass_own (pa_cons (pv 0) (pa_cons (pv 2) (pa_cons (pv 3) pa_nil)))))
    (pss_cons (ps_if (pt_cmpR oIs (pv 4) pe_non (nomark _)) (pss_one (ps_ret (pe_or (pe_cmpR op_eq (pv 2) (pv 1) (nomark _)) (pe_one (pe_cmpR oGt (pe_callC c_least hr (by omega) rfl pass_own (pa_cons (pv 0) (pa_cons (pv 2) (pa_cons (pv 1) pa_nil)))) (pv 3) (nomark _)))))) pss_nil)
    (pss_cons (ps_if (PW.pt (pw_or (pt_not (pt_val (pe_callC c_l_whole hr (by omega) rfl pass_own (pa_cons (pv 4) pa_nil)))) (pw_or (pt_cmpR oLt (pv 4) (pv 2) (nomark _)) (pw_or (pt_cmpR oGe (pv 4) (pv 1) (nomark _)) (pw_or1 (pt_cmpR oGt (pe_callC c_least hr (by omega) rfl pass_own (pa_cons (pv 0) (pa_cons (pv 4) (pa_cons (pe_op oAdd (pv 4) pe_int) pa_nil)))) (pv 3) (nomark _))))))) (pss_one (ps_ret pe_bl)) pss_nil)
    (pss_one (ps_ret (pe_or (pe_cmpR op_eq (pv 4) (pv 2) (nomark _)) (pe_one (pe_cmpR oGt (pe_callC c_least hr (by omega) rfl pass_own (pa_cons (pv 0) (pa_cons (pv 2) (pa_cons (pv 4) pa_nil)))) (pv 3) (nomark _)))))))))
theorem sc_l_held : FnScope ["_law_book", "_law_low", "_law_high", "_law_bound"] ["_law_book", "_law_low", "_law_high", "_law_bound"] (defScope st_l_held) := ⟨rfl, rfl, rfl, by decide +kernel, rfl, by decide +kernel, by decide +kernel⟩
theorem d_l_held {P : Program} {w : World} {K : PySem.W.Frag} {mg : Str → Option Value} {base : Heap} {k : Nat} {s_first : Sp} {s_place : Sp}
    {k_first : Nat} (c_first : Cal P w K mg base k_first "first" ["book", "low", "bound"] s_first) (h_first : k_first ≤ k) {k_place : Nat} (c_place : Cal P w K mg base k_place "place" ["book", "low", "high"] s_place) (h_place : k_place ≤ k)
    (f : Addr) (cdv : Value) (A : Around) (outer : List Env) (s : Shared) (H : Hp) (E : XK) (hr : Room k (A.deeper (envOfC "_law_held" (defScope st_l_held) s.heap.objs.size f cdv))) :
    PSs (cxOf (L2.CX P w) P w K mg base ["_law_book", "_law_low", "_law_high", "_law_bound"] "_law_held" (defScope st_l_held) f cdv A outer s H E) (defBody st_l_held) (t_l_held s_first s_place E) :=
  (pss_cons (ps_if (pt_cmpR op_eq (pv 1) (pv 2) (nomark _)) (pss_one (ps_ret (pe_tup (pa_cons pe_non (pa_cons (pe_callC c_first hr (by omega) rfl pass_own (pa_cons (pv 0) (pa_cons (pv 1) (pa_cons (pv 3) pa_nil)))) pa_nil))))) pss_nil)
    (pss_one (ps_ret (pe_tup (pa_cons (pe_callC c_place hr (by omega) rfl pass_own (pa_cons (pv 0) (pa_cons (pv 1) (pa_cons (pv 2) pa_nil)))) (pa_cons (pe_callC c_first hr (by omega) rfl pass_own (pa_cons (pv 0) (pa_cons (pv 1) (pa_cons (pv 3) pa_nil)))) pa_nil))))))
theorem sc_law_k13 : FnScope ["_law_script", "_law_many", "_law_book", "_law_ends", "_law_k", "_law_some", "_law_ahead", "_law_held_here", "_law_deed", "_law_word", "_law_cuts", "_law_bound", "_law_j"] ["_law_script"] (defScope st_law_k13) := ⟨rfl, rfl, rfl, by decide +kernel, rfl, by decide +kernel, by decide +kernel⟩
theorem d_law_k13 {P : Program} {w : World} {K : PySem.W.Frag} {mg : Str → Option Value} {base : Heap} {k : Nat} {s_l_cell_at : Sp} {s_l_number_by : Sp} {s_even : Sp} {s_l_end_by13 : Sp} {s_l_held : Sp} {s_added : Sp} {s_filled : Sp} {s_l_changed13 : Sp} {s_l_cut13 : Sp} {s_least : Sp} {s_l_first13 : Sp}
    {k_l_cell_at : Nat} (c_l_cell_at : Cal P w K mg base k_l_cell_at "_law_cell_at" ["_law_script", "_law_k"] s_l_cell_at) (h_l_cell_at : k_l_cell_at ≤ k) {k_l_number_by : Nat} (c_l_number_by : Cal P w K mg base k_l_number_by "_law_number_by" ["_law_cell"] s_l_number_by) (h_l_number_by : k_l_number_by ≤ k) {k_even : Nat} (c_even : Cal P w K mg base k_even "even" ["many", "number"] s_even) (h_even : k_even ≤ k) {k_l_end_by13 : Nat} (c_l_end_by13 : Cal P w K mg base k_l_end_by13 "_law_end_by" ["_law_cell", "_law_ends", "_law_many"] s_l_end_by13) (h_l_end_by13 : k_l_end_by13 ≤ k) {k_l_held : Nat} (c_l_held : Cal P w K mg base k_l_held "_law_held" ["_law_book", "_law_low", "_law_high", "_law_bound"] s_l_held) (h_l_held : k_l_held ≤ k) {k_added : Nat} (c_added : Cal P w K mg base k_added "added" ["book", "low", "high", "by"] s_added) (h_added : k_added ≤ k) {k_filled : Nat} (c_filled : Cal P w K mg base k_filled "filled" ["book", "low", "high", "number"] s_filled) (h_filled : k_filled ≤ k) {k_l_changed13 : Nat} (c_l_changed13 : Cal P w K mg base k_l_changed13 "_law_changed" ["_law_ahead", "_law_book", "_law_word", "_law_deed", "_law_begin", "_law_ending"] s_l_changed13) (h_l_changed13 : k_l_changed13 ≤ k) {k_l_cut13 : Nat} (c_l_cut13 : Cal P w K mg base k_l_cut13 "_law_cut" ["_law_book", "_law_begin", "_law_cut_here", "_law_ending"] s_l_cut13) (h_l_cut13 : k_l_cut13 ≤ k) {k_least : Nat} (c_least : Cal P w K mg base k_least "least" ["book", "low", "high"] s_least) (h_least : k_least ≤ k) {k_l_first13 : Nat} (c_l_first13 : Cal P w K mg base k_l_first13 "_law_first" ["_law_book", "_law_many", "_law_low", "_law_bound"] s_l_first13) (h_l_first13 : k_l_first13 ≤ k) (z_range : mg "range" = none) (z_len : mg "len" = none) (z_min : mg "min" = none) (z_max : mg "max" = none) (z_sorted : mg "sorted" = none)
    (f : Addr) (cdv : Value) (A : Around) (outer : List Env) (s : Shared) (H : Hp) (E : XK) (hr : Room k (A.deeper (envOfC "law" (defScope st_law_k13) s.heap.objs.size f cdv))) :
    PSs (cxOf (L2.CX P w) P w K mg base ["_law_script", "_law_many", "_law_book", "_law_ends", "_law_k", "_law_some", "_law_ahead", "_law_held_here", "_law_deed", "_law_word", "_law_cuts", "_law_bound", "_law_j"] "law" (defScope st_law_k13) f cdv A outer s H E) (defBody st_law_k13) (t_law_k13 K s_l_cell_at s_l_number_by s_even s_l_end_by13 s_l_held s_added s_filled s_l_changed13 s_l_cut13 s_least s_l_first13 E) :=
  (pss_cons (ps_set (i := 1) sc_law_k13.nd rfl (Or.inr rfl) (pe_op oMod (pe_op oDiv (pe_callC c_l_cell_at hr (by omega) rfl pass_own (pa_cons (pv 0) (pa_cons pe_int pa_nil))) pe_int) (pe_op oAdd (pe_op oPow pe_int pe_int) pe_int)))
    (pss_cons (ps_if (pt_cmpR op_eq (pe_op oMod (pe_callC c_l_cell_at hr (by omega) rfl pass_own (pa_cons (pv 0) (pa_cons pe_int pa_nil))) pe_int) pe_int (nomark _)) (pss_one (ps_set (i := 1) sc_law_k13.nd rfl (Or.inr rfl) (pe_op oMod (pe_op oDiv (pe_callC c_l_cell_at hr (by omega) rfl pass_own (pa_cons (pv 0) (pa_cons pe_int pa_nil))) pe_int) pe_int))) pss_nil)
    (pss_cons (ps_set (i := 2) sc_law_k13.nd rfl (Or.inl rfl) (pe_callC c_even hr (by omega) rfl pass_own (pa_cons (pv 1) (pa_cons (pe_callC c_l_number_by hr (by omega) rfl pass_own (pa_cons (pe_callC c_l_cell_at hr (by omega) rfl pass_own (pa_cons (pv 0) (pa_cons pe_int pa_nil))) pa_nil)) pa_nil))))
    (pss_cons (ps_set (i := 3) sc_law_k13.nd rfl (Or.inr rfl) (pe_lst (pa_cons pe_int (pa_cons (pv 1) pa_nil))))
    (pss_cons (ps_for (passes_of rfl) rfl (pi_range3 rfl z_range (pa_cons pe_int (pa_cons (pe_op oSub (pe_callB (cMin rfl) rfl z_min (by decide +kernel) (pa_cons (pe_callB cLen rfl z_len boot_len (pa_cons (pv 0) pa_nil)) (pa_cons pe_int pa_nil))) pe_int) (pa_cons pe_int pa_nil)))) (pg_name (i := 4) sc_law_k13.nd rfl (Or.inr rfl))
    (pss_cons (ps_setLc (i := 5) (own := [("_law_j", 12)]) (g := gName 12) (tt := tYes) (te := (tCall s_l_end_by13 [] E0 (tCons (tOp nDiv (tOp (rIxL K) (tVar 0) (tOp nAdd (tVar 4) (tVar 12))) (tC (.int 5))) (tCons (tVar 3) (tCons (tVar 1) tNil))))) rfl sc_law_k13.nd rfl rfl rfl  (pi_range1 rfl z_range (pa_cons pe_int pa_nil)) (blkOk_by (own := [("_law_j", 12)]) (N := ["_law_script", "_law_many", "_law_book", "_law_ends", "_law_k", "_law_some", "_law_ahead", "_law_held_here", "_law_deed", "_law_word", "_law_cuts", "_law_bound", "_law_j"]) (sc := defScope st_law_k13) (by decide +kernel)) (fun _ _ _ _ _ => pg_name (i := 12) sc_law_k13.nd rfl (Or.inl rfl)) (fun _ _ _ _ _ => pts_nil) (fun _ _ _ _ _ => (pe_callC c_l_end_by13 hr (by omega) rfl passL (pa_cons (pe_op oDiv (pe_ix ix_list (pv 0) (pe_op oAdd (pv 4) (pv 12)) (fun _ _ => rfl)) pe_int) (pa_cons (pv 3) (pa_cons (pv 1) pa_nil))))))
    (pss_cons (ps_set (i := 6) sc_law_k13.nd rfl (Or.inl rfl) (pv 2))
    (pss_cons (ps_set (i := 7) sc_law_k13.nd rfl (Or.inl rfl) (pe_callC c_l_held hr (by omega) rfl pass_own (pa_cons (pv 6) (pa_cons (pe_callB (cr_min rfl) rfl z_min (by decide +kernel) (pa_cons (pv 5) pa_nil)) (pa_cons (pe_callB (cr_max rfl) rfl z_max (by decide +kernel) (pa_cons (pv 5) pa_nil)) (pa_cons (pe_op oSub (pe_op oMod (pe_ix ix_list (pv 0) (pv 4) (fun _ _ => rfl)) pe_int) pe_int) pa_nil))))))
    (pss_cons (ps_set (i := 8) sc_law_k13.nd rfl (Or.inl rfl) (pe_tup (pa_cons (pe_callB (cMin rfl) rfl z_min (by decide +kernel) (pa_cons (pe_ix ix_list (pv 5) pe_int (fun _ _ => rfl)) (pa_cons (pe_ix ix_list (pv 5) pe_int (fun _ _ => rfl)) pa_nil))) (pa_cons (pe_callB (cMax rfl) rfl z_max (by decide +kernel) (pa_cons (pe_ix ix_list (pv 5) pe_int (fun _ _ => rfl)) (pa_cons (pe_ix ix_list (pv 5) pe_int (fun _ _ => rfl)) pa_nil))) (pa_cons (pe_callC c_l_number_by hr (by omega) rfl pass_own (pa_cons (pe_op oDiv (pe_ix ix_list (pv 0) (pe_op oAdd (pv 4) pe_int) (fun _ _ => rfl)) pe_int) pa_nil)) pa_nil)))))
    (pss_cons (ps_set (i := 9) sc_law_k13.nd rfl (Or.inl rfl) (pe_ix ix_list (pe_lst (pa_cons pe_str (pa_cons pe_str (pa_cons pe_str pa_nil)))) (pe_op oMod (pe_ix ix_list (pv 0) (pv 4) (fun _ _ => rfl)) pe_int) (fun _ _ => rfl)))
    (pss_cons (ps_if (pt_cmpR op_eq (pv 9) pe_str (nomark _)) (pss_one (ps_set (i := 2) sc_law_k13.nd rfl (Or.inl rfl) (pe_callC c_added hr (by omega) rfl pass_own (pa_cons (pv 6) (pa_cons (pe_ix ix_tup (pv 8) pe_int (fun _ _ => rfl)) (pa_cons (pe_ix ix_tup (pv 8) pe_int (fun _ _ => rfl)) (pa_cons (pe_ix ix_tup (pv 8) pe_int (fun _ _ => rfl)) pa_nil))))))) (pss_one (ps_set (i := 2) sc_law_k13.nd rfl (Or.inl rfl) (pe_callC c_filled hr (by omega) rfl pass_own (pa_cons (pv 6) (pa_cons (pe_ix ix_tup (pv 8) pe_int (fun _ _ => rfl)) (pa_cons (pe_ix ix_tup (pv 8) pe_int (fun _ _ => rfl)) (pa_cons (pe_ix ix_tup (pv 8) pe_int (fun _ _ => rfl)) pa_nil))))))))
    (pss_cons (ps_set (i := 3) sc_law_k13.nd rfl (Or.inr rfl) (pe_op op_cat (pv 3) (pe_lst (pa_cons (pe_ix ix_tup (pv 8) pe_int (fun _ _ => rfl)) (pa_cons (pe_ix ix_tup (pv 8) pe_int (fun _ _ => rfl)) pa_nil)))))
    (pss_cons (ps_set (i := 10) sc_law_k13.nd rfl (Or.inl rfl) (pe_callB cr_sorted rfl z_sorted (by decide +kernel) (pa_cons (pe_lc (own := [("_law_j", 12)]) (g := gName 12) (tt := tYes) (te := (tCall s_l_end_by13 [] E0 (tCons (tOp nAdd (tOp nDiv (tOp (rIxL K) (tVar 0) (tOp nAdd (tVar 4) (tVar 12))) (tC (.int 7))) (tVar 4)) (tCons (tVar 3) (tCons (tVar 1) tNil))))) rfl sc_law_k13.nd (pi_range1 rfl z_range (pa_cons pe_int pa_nil)) (blkOk_by (own := [("_law_j", 12)]) (N := ["_law_script", "_law_many", "_law_book", "_law_ends", "_law_k", "_law_some", "_law_ahead", "_law_held_here", "_law_deed", "_law_word", "_law_cuts", "_law_bound", "_law_j"]) (sc := defScope st_law_k13) (by decide +kernel)) (fun _ _ _ _ _ => pg_name (i := 12) sc_law_k13.nd rfl (Or.inl rfl)) (fun _ _ _ _ _ => pts_nil) (fun _ _ _ _ _ => (pe_callC c_l_end_by13 hr (by omega) rfl passL (pa_cons (pe_op oAdd (pe_op oDiv (pe_ix ix_list (pv 0) (pe_op oAdd (pv 4) (pv 12)) (fun _ _ => rfl)) pe_int) (pv 4)) (pa_cons (pv 3) (pa_cons (pv 1) pa_nil)))))) pa_nil)))
    (pss_cons (ps_if (pt_not (pt_val (pe_callC c_l_changed13 hr (by omega) rfl pass_own (pa_cons (pv 6) (pa_cons (pv 2) (pa_cons (pv 9) (pa_cons (pv 8) (pa_cons (pe_ix ix_list (pv 10) pe_int (fun _ _ => rfl)) (pa_cons (pe_ix ix_list (pv 10) pe_int (fun _ _ => rfl)) pa_nil))))))))) (pss_one (ps_ret pe_bl)) pss_nil)
    (pss_cons (ps_if (pt_not (pt_val (pe_callC c_l_cut13 hr (by omega) rfl pass_own (pa_cons (pv 2) (pa_cons (pe_ix ix_list (pv 10) pe_int (fun _ _ => rfl)) (pa_cons (pe_ix ix_list (pv 10) pe_int (fun _ _ => rfl)) (pa_cons (pe_ix ix_list (pv 10) pe_int (fun _ _ => rfl)) pa_nil))))))) (pss_one (ps_ret pe_bl)) pss_nil)
    (pss_cons (ps_set (i := 11) sc_law_k13.nd rfl (Or.inl rfl) (pe_op oSub (pe_op oAdd (pe_ix ix_tup (pv 8) pe_int (fun _ _ => rfl)) (pe_op oMod (pe_ix ix_list (pv 0) (pe_op oAdd (pv 4) pe_int) (fun _ _ => rfl)) pe_int)) pe_int))
    (pss_cons (ps_if (PW.pt (pw_and (pt_cmpR oGt (pv 1) pe_int (nomark _)) (pw_and1 (pt_cmpR op_eq (pe_op oMod (pe_ix ix_list (pv 0) (pe_op oAdd (pv 4) pe_int) (fun _ _ => rfl)) pe_int) pe_int (nomark _))))) (pss_one (ps_set (i := 11) sc_law_k13.nd rfl (Or.inl rfl) (pe_op oAdd (pe_callC c_least hr (by omega) rfl pass_own (pa_cons (pv 2) (pa_cons pe_int (pa_cons (pv 1) pa_nil)))) (pe_op oMod (pe_op oDiv (pe_ix ix_list (pv 0) (pe_op oAdd (pv 4) pe_int) (fun _ _ => rfl)) pe_int) pe_int)))) pss_nil)
    (pss_cons (ps_if (pt_not (pt_val (pe_callC c_l_first13 hr (by omega) rfl pass_own (pa_cons (pv 2) (pa_cons (pv 1) (pa_cons (pe_ix ix_list (pv 10) pe_int (fun _ _ => rfl)) (pa_cons (pv 11) pa_nil))))))) (pss_one (ps_ret pe_bl)) pss_nil)
    (pss_one (ps_if (pt_cmpR (op_neD hr.units) (pe_callC c_l_held hr (by omega) rfl pass_own (pa_cons (pv 6) (pa_cons (pe_callB (cr_min rfl) rfl z_min (by decide +kernel) (pa_cons (pv 5) pa_nil)) (pa_cons (pe_callB (cr_max rfl) rfl z_max (by decide +kernel) (pa_cons (pv 5) pa_nil)) (pa_cons (pe_op oSub (pe_op oMod (pe_ix ix_list (pv 0) (pv 4) (fun _ _ => rfl)) pe_int) pe_int) pa_nil))))) (pv 7) (nomark _)) (pss_one (ps_ret pe_bl)) pss_nil))))))))))))))))
    (pss_one (ps_ret pe_bl)))))))
end RB
namespace RB
open PySem PySem.Spec PyProof.Rows L2 LamX NdefX
theorem run_k13 {P : Program} {w : World} {K : PySem.W.Frag} {mg : Str → Option Value} {base : Heap} {C C_OutOfRow C_Nothing C_NoRow C_TooMany : Addr} {ca_added_in Pt_added_in ca_filled_in Pt_filled_in : Addr} {T : List (Addr × Str)} {fa : Addr} {fd : FuncData}
    (M_Tree : MkAt K mg "Tree" "Tree.__init__" C st_Tree_init ["self", "many", "total", "least", "more", "left", "right"])
    (X : Tx K C)
    (D_check_stretch : DefAt K mg "check_stretch" st_check_stretch ["book", "low", "high"])
    (D_even_tree : DefAt K mg "even_tree" st_even_tree ["many", "number"])
    (D_joined : DefAt K mg "joined" st_joined ["left", "right", "more"])
    (D_raised : DefAt K mg "raised" st_raised ["tree", "by"])
    (D_halves : DefAt K mg "halves" st_halves ["tree"])
    (D_added_in : DefAtL K mg "added_in" st_added_in ["tree", "low", "high", "by"] ca_added_in) (TB_added_in : TabB base mg ca_added_in Pt_added_in) (hm_added_in : (Pt_added_in, q_added_in) ∈ T) (hu_added_in : ∀ p ∈ T, p.1 = Pt_added_in → p.2 = q_added_in)
    (D_filled_in : DefAtL K mg "filled_in" st_filled_in ["tree", "low", "high", "number"] ca_filled_in) (TB_filled_in : TabB base mg ca_filled_in Pt_filled_in) (hm_filled_in : (Pt_filled_in, q_filled_in) ∈ T) (hu_filled_in : ∀ p ∈ T, p.1 = Pt_filled_in → p.2 = q_filled_in)
    (D_changed : DefAt K mg "changed" st_changed ["tree", "low", "high", "change"])
    (D_total_in : DefAt K mg "total_in" st_total_in ["tree", "low", "high"])
    (D_least_in : DefAt K mg "least_in" st_least_in ["tree", "low", "high"])
    (D_first_in : DefAt K mg "first_in" st_first_in ["tree", "low", "bound"])
    (D_numbers_in : DefAtD K mg "numbers_in" st_numbers_in ["tree", "low", "high", "above"] [.int 0])
    (D_changed_in : DefAt K mg "changed_in" st_changed_in ["tree", "low", "high", "above", "change"])
    (D_total : DefAt K mg "total" st_total ["book", "low", "high"])
    (D_least : DefAt K mg "least" st_least ["book", "low", "high"])
    (D_place : DefAt K mg "place" st_place ["book", "low", "high"])
    (D_first : DefAt K mg "first" st_first ["book", "low", "bound"])
    (D_even : DefAt K mg "even" st_even ["many", "number"])
    (D_listed : DefAt K mg "listed" st_listed ["book", "low", "high"])
    (D_added : DefAt K mg "added" st_added ["book", "low", "high", "by"])
    (D_filled : DefAt K mg "filled" st_filled ["book", "low", "high", "number"])
    (D_l_whole : DefAt K mg "_law_whole" st_l_whole ["_law_found"])
    (D_l_cell_at : DefAt K mg "_law_cell_at" st_l_cell_at ["_law_script", "_law_k"])
    (D_l_number_by : DefAt K mg "_law_number_by" st_l_number_by ["_law_cell"])
    (D_l_end_by13 : DefAt K mg "_law_end_by" st_l_end_by13 ["_law_cell", "_law_ends", "_law_many"])
    (D_l_least_of : DefAt K mg "_law_least_of" st_l_least_of ["_law_some"])
    (D_l_changed13 : DefAt K mg "_law_changed" st_l_changed13 ["_law_ahead", "_law_book", "_law_word", "_law_deed", "_law_begin", "_law_ending"])
    (D_l_cut13 : DefAt K mg "_law_cut" st_l_cut13 ["_law_book", "_law_begin", "_law_cut_here", "_law_ending"])
    (D_l_first13 : DefAt K mg "_law_first" st_l_first13 ["_law_book", "_law_many", "_law_low", "_law_bound"])
    (D_l_held : DefAt K mg "_law_held" st_l_held ["_law_book", "_law_low", "_law_high", "_law_bound"])
    (x_OutOfRow : ExcAt K mg "OutOfRow" C_OutOfRow)
    (x_Nothing : ExcAt K mg "Nothing" C_Nothing)
    (x_NoRow : ExcAt K mg "NoRow" C_NoRow)
    (x_TooMany : ExcAt K mg "TooMany" C_TooMany)
    (n_MOST_PLACES : ∃ t, mg "MOST_PLACES" = some (.int 1000000000000 t))
    (n_MOST_LISTED : ∃ t, mg "MOST_LISTED" = some (.int 1000 t))
    (z_min : mg "min" = none)
    (z_max : mg "max" = none)
    (z_int : mg "int" = none)
    (z_isinstance : mg "isinstance" = none)
    (z_bool : mg "bool" = none)
    (z_len : mg "len" = none)
    (z_range : mg "range" = none)
    (z_sorted : mg "sorted" = none)
    (F : Fun K "law" "law" st_law_k13 fa fd) : FnOk P w K mg base (L2.CX P w) 50 fa fd ["_law_script"] (sp_lawT K T) := by
  have c_check_stretch : Cal P w K mg base 1 "check_stretch" ["book", "low", "high"] (sp_check_stretch C C_OutOfRow) := D_check_stretch.cal (k := 0) sc_check_stretch (fun vs H Q E h => by obtain ⟨_, _, _, _, rfl, _⟩ := h; rfl) (t_check_stretch K C_OutOfRow) (fun f cdv A outer s H E hr => d_check_stretch x_OutOfRow f cdv A outer s H E hr) (p_check_stretch X)
  have m_Tree : CalMk P w K mg base 1 "Tree" C ["self", "many", "total", "least", "more", "left", "right"] (sp_Tree C) := M_Tree.cal (n := 0) sc_Tree_init (fun vs H Q E h => by obtain ⟨_, _, _, _, _, _, _, _, rfl, _⟩ := h; rfl) (t_Tree_init K) (fun f cdv A outer s H E hr => d_Tree_init f cdv A outer s H E hr) (p_Tree_init X)
  have c_even_tree : Cal P w K mg base 3 "even_tree" ["many", "number"] (sp_even_tree C) := D_even_tree.cal (k := 2) sc_even_tree (fun vs H Q E h => by obtain ⟨_, _, rfl, _⟩ := h; rfl) (t_even_tree C (sp_Tree C)) (fun f cdv A outer s H E hr => d_even_tree m_Tree (by omega) f cdv A outer s H E hr) p_even_tree
  have c_joined : Cal P w K mg base 3 "joined" ["left", "right", "more"] (sp_joined C) := D_joined.cal (k := 2) sc_joined (fun vs H Q E h => by obtain ⟨_, _, _, _, _, rfl, _⟩ := h; rfl) (t_joined K C (sp_Tree C)) (fun f cdv A outer s H E hr => d_joined m_Tree (by omega) z_min f cdv A outer s H E hr) (p_joined X)
  have c_raised : Cal P w K mg base 4 "raised" ["tree", "by"] (sp_raised C) := D_raised.cal (k := 3) sc_raised (fun vs H Q E h => by obtain ⟨_, _, _, rfl, _⟩ := h; rfl) (t_raised K (sp_even_tree C) (sp_joined C)) (fun f cdv A outer s H E hr => d_raised c_even_tree (by omega) c_joined (by omega) f cdv A outer s H E hr) (p_raised X)
  have c_halves : Cal P w K mg base 4 "halves" ["tree"] (sp_halves C) := D_halves.cal (k := 3) sc_halves (fun vs H Q E h => by obtain ⟨_, _, rfl, _⟩ := h; rfl) (t_halves K (sp_even_tree C)) (fun f cdv A outer s H E hr => d_halves c_even_tree (by omega) f cdv A outer s H E hr) (p_halves X)
  have l_added_in : ∀ (f : Addr) (F : LF) (ws : List (Option V)), F.Is q_added_in la_added_in → LOk P w K mg base 5 f F ["by"] ws (sp_ch C opAdd ws) := fun f F ws hF => by
    obtain ⟨q, l, cl, c⟩ := F
    obtain ⟨rfl, rfl⟩ := hF
    exact lok_of ns_lam_added_in (fun pm ctv us hl => match us, hl with | [_, _], _ => rfl) len_ch (t_lam_added_in (sp_raised C)) (fun A outer s H E hr => d_lam_added_in c_raised (by omega) f cl c A outer s H E hr) p_lam_added_in
  have i_added_in : ∀ (f : Addr) (F : LF) (ws : List (Option V)), F.Is q_added_in la_added_in → ∀ n, CalG P w K mg base (n + 5) "changed_in" ["tree", "low", "high", "above", "change"] (GL f F ["by"] ws) (sp_changed_in C opAdd f F ws n) := fun f F ws hF n => by
    induction n with
    | zero => exact D_changed_in.noneG no_changed_in
    | succ n ih => exact (D_changed_in.calG (k := n + 5) sc_changed_in len_changed_in (t_changed_in K (sp_halves C) (sp_joined C) (sp_changed_in C opAdd f F ws n) f F (sp_ch C opAdd ws)) (fun f' cdv A outer s H E hG hr => d_changed_in c_halves (by omega) c_joined (by omega) ih (Nat.le_refl _) (l_added_in f F ws hF) (by omega) z_max z_min f' cdv A outer s H E hG hr) (p_changed_in X op_add)).mono (by omega)
  have g_added_in : ∀ (f : Addr) (F : LF) (ws : List (Option V)), F.Is q_added_in la_added_in → CalG P w K mg base 47 "changed" ["tree", "low", "high", "change"] (GL f F ["by"] ws) (sp_changed C opAdd f F ws) := fun f F ws hF =>
    D_changed.calG (k := 46) sc_changed len_changed (t_changed (sp_raised C) (sp_changed_in C opAdd f F ws 41)) (fun f' cdv A outer s H E hG hr => d_changed c_raised (by omega) (i_added_in f F ws hF 41) (by omega) f' cdv A outer s H E hG hr) p_changed
  have c_added_in : Cal P w K mg base 48 "added_in" ["tree", "low", "high", "by"] (sp_deed_in C T opAdd) := D_added_in.cal (n := 47) sc_added_in (fun vs H Q E h => by obtain ⟨_, _, _, _, _, rfl, _⟩ := h; rfl) (t_added_in T q_added_in la_added_in (sp_changed C opAdd)) (fun f A outer s H E hr => d_added_in g_added_in (by omega) TB_added_in hm_added_in hu_added_in f A outer s H E hr) p_added_in
  have l_filled_in : ∀ (f : Addr) (F : LF) (ws : List (Option V)), F.Is q_filled_in la_filled_in → LOk P w K mg base 4 f F ["number"] ws (sp_ch C opFill ws) := fun f F ws hF => by
    obtain ⟨q, l, cl, c⟩ := F
    obtain ⟨rfl, rfl⟩ := hF
    exact lok_of ns_lam_filled_in (fun pm ctv us hl => match us, hl with | [_, _], _ => rfl) len_ch (t_lam_filled_in K (sp_even_tree C)) (fun A outer s H E hr => d_lam_filled_in c_even_tree (by omega) f cl c A outer s H E hr) (p_lam_filled_in X)
  have i_filled_in : ∀ (f : Addr) (F : LF) (ws : List (Option V)), F.Is q_filled_in la_filled_in → ∀ n, CalG P w K mg base (n + 4) "changed_in" ["tree", "low", "high", "above", "change"] (GL f F ["number"] ws) (sp_changed_in C opFill f F ws n) := fun f F ws hF n => by
    induction n with
    | zero => exact D_changed_in.noneG no_changed_in
    | succ n ih => exact (D_changed_in.calG (k := n + 4) sc_changed_in len_changed_in (t_changed_in K (sp_halves C) (sp_joined C) (sp_changed_in C opFill f F ws n) f F (sp_ch C opFill ws)) (fun f' cdv A outer s H E hG hr => d_changed_in c_halves (by omega) c_joined (by omega) ih (Nat.le_refl _) (l_filled_in f F ws hF) (by omega) z_max z_min f' cdv A outer s H E hG hr) (p_changed_in X op_fill)).mono (by omega)
  have g_filled_in : ∀ (f : Addr) (F : LF) (ws : List (Option V)), F.Is q_filled_in la_filled_in → CalG P w K mg base 46 "changed" ["tree", "low", "high", "change"] (GL f F ["number"] ws) (sp_changed C opFill f F ws) := fun f F ws hF =>
    D_changed.calG (k := 45) sc_changed len_changed (t_changed (sp_raised C) (sp_changed_in C opFill f F ws 41)) (fun f' cdv A outer s H E hG hr => d_changed c_raised (by omega) (i_filled_in f F ws hF 41) (by omega) f' cdv A outer s H E hG hr) p_changed
  have c_filled_in : Cal P w K mg base 47 "filled_in" ["tree", "low", "high", "number"] (sp_deed_in C T opFill) := D_filled_in.cal (n := 46) sc_filled_in (fun vs H Q E h => by obtain ⟨_, _, _, _, _, rfl, _⟩ := h; rfl) (t_filled_in T q_filled_in la_filled_in (sp_changed C opFill)) (fun f A outer s H E hr => d_filled_in g_filled_in (by omega) TB_filled_in hm_filled_in hu_filled_in f A outer s H E hr) p_filled_in
  have c_total_in : ∀ n, Cal P w K mg base (n + 0) "total_in" ["tree", "low", "high"] (sp_total_in C n) := fun n => by
    induction n with
    | zero => exact D_total_in.none no_total_in
    | succ n ih => exact (D_total_in.cal (k := n + 0) sc_total_in (fun vs H Q E h => by obtain ⟨_, _, _, _, rfl, _⟩ := h; rfl) (t_total_in K (sp_total_in C n)) (fun f cdv A outer s H E hr => d_total_in ih (Nat.le_refl _) z_max z_min f cdv A outer s H E hr) (p_total_in X)).mono (by omega)
  have c_least_in : ∀ n, Cal P w K mg base (n + 0) "least_in" ["tree", "low", "high"] (sp_least_in C n) := fun n => by
    induction n with
    | zero => exact D_least_in.none no_least_in
    | succ n ih => exact (D_least_in.cal (k := n + 0) sc_least_in (fun vs H Q E h => by obtain ⟨_, _, _, _, rfl, _⟩ := h; rfl) (t_least_in K (sp_least_in C n)) (fun f cdv A outer s H E hr => d_least_in ih (Nat.le_refl _) z_max z_min f cdv A outer s H E hr) (p_least_in X)).mono (by omega)
  have c_first_in : ∀ n, Cal P w K mg base (n + 0) "first_in" ["tree", "low", "bound"] (sp_first_in C n) := fun n => by
    induction n with
    | zero => exact D_first_in.none no_first_in
    | succ n ih => exact (D_first_in.cal (k := n + 0) sc_first_in (fun vs H Q E h => by obtain ⟨_, _, _, _, rfl, _⟩ := h; rfl) (t_first_in K (sp_first_in C n)) (fun f cdv A outer s H E hr => d_first_in ih (Nat.le_refl _) z_max f cdv A outer s H E hr) (p_first_in X)).mono (by omega)
  have c_numbers_in : ∀ n, CalD P w K mg base (n + 0) "numbers_in" ["tree", "low", "high", "above"] [.int 0] (sp_numbers_in C n) := fun n => by
    induction n with
    | zero => exact D_numbers_in.none no_numbers_in
    | succ n ih => exact (D_numbers_in.cal (k := n + 0) sc_numbers_in (fun vs H Q E h => by obtain ⟨_, _, _, _, _, rfl, _⟩ := h; rfl) (t_numbers_in K (sp_numbers_in C n)) (fun f cdv A outer s H E hr => d_numbers_in ih (Nat.le_refl _) z_max z_min f cdv A outer s H E hr) (p_numbers_in X)).mono (by omega)
  have c_total : Cal P w K mg base 42 "total" ["book", "low", "high"] (sp_total C C_OutOfRow 41) := D_total.cal (k := 41) sc_total (fun vs H Q E h => by obtain ⟨_, _, _, _, rfl, _⟩ := h; rfl) (t_total (sp_check_stretch C C_OutOfRow) (sp_total_in C 41)) (fun f cdv A outer s H E hr => d_total c_check_stretch (by omega) (c_total_in 41) (by omega) f cdv A outer s H E hr) p_total
  have c_least : Cal P w K mg base 42 "least" ["book", "low", "high"] (sp_least C C_OutOfRow C_Nothing 41) := D_least.cal (k := 41) sc_least (fun vs H Q E h => by obtain ⟨_, _, _, _, rfl, _⟩ := h; rfl) (t_least C_Nothing (sp_check_stretch C C_OutOfRow) (sp_least_in C 41)) (fun f cdv A outer s H E hr => d_least c_check_stretch (by omega) (c_least_in 41) (by omega) x_Nothing f cdv A outer s H E hr) p_least
  have c_place : Cal P w K mg base 43 "place" ["book", "low", "high"] (sp_place C C_OutOfRow C_Nothing 41) := D_place.cal (k := 42) sc_place (fun vs H Q E h => by obtain ⟨_, _, _, _, rfl, _⟩ := h; rfl) (t_place (sp_least C C_OutOfRow C_Nothing 41) (sp_first_in C 41)) (fun f cdv A outer s H E hr => d_place c_least (by omega) (c_first_in 41) (by omega) f cdv A outer s H E hr) p_place
  have c_first : Cal P w K mg base 42 "first" ["book", "low", "bound"] (sp_first C C_OutOfRow 41) := D_first.cal (k := 41) sc_first (fun vs H Q E h => by obtain ⟨_, _, _, _, rfl, _⟩ := h; rfl) (t_first K (sp_check_stretch C C_OutOfRow) (sp_first_in C 41)) (fun f cdv A outer s H E hr => d_first c_check_stretch (by omega) (c_first_in 41) (by omega) f cdv A outer s H E hr) (p_first X)
  have c_even : Cal P w K mg base 4 "even" ["many", "number"] (sp_even C C_NoRow) := D_even.cal (k := 3) sc_even (fun vs H Q E h => by obtain ⟨_, _, rfl, _⟩ := h; rfl) (t_even C_NoRow (sp_even_tree C)) (fun f cdv A outer s H E hr => d_even c_even_tree (by omega) x_NoRow n_MOST_PLACES f cdv A outer s H E hr) p_even
  have c_listed : Cal P w K mg base 42 "listed" ["book", "low", "high"] (sp_listed C C_OutOfRow C_TooMany 41) := D_listed.cal (k := 41) sc_listed (fun vs H Q E h => by obtain ⟨_, _, _, _, rfl, _⟩ := h; rfl) (t_listed C_TooMany (sp_check_stretch C C_OutOfRow) (sp_numbers_in C 41)) (fun f cdv A outer s H E hr => d_listed c_check_stretch (by omega) (c_numbers_in 41) (by omega) x_TooMany n_MOST_LISTED f cdv A outer s H E hr) p_listed
  have c_added : Cal P w K mg base 49 "added" ["book", "low", "high", "by"] (sp_deed C C_OutOfRow T opAdd) := D_added.cal (k := 48) sc_added (fun vs H Q E h => by obtain ⟨_, _, _, _, _, _, rfl, _⟩ := h; rfl) (t_added (sp_check_stretch C C_OutOfRow) (sp_deed_in C T opAdd)) (fun f cdv A outer s H E hr => d_added c_check_stretch (by omega) c_added_in (by omega) f cdv A outer s H E hr) p_added
  have c_filled : Cal P w K mg base 48 "filled" ["book", "low", "high", "number"] (sp_deed C C_OutOfRow T opFill) := D_filled.cal (k := 47) sc_filled (fun vs H Q E h => by obtain ⟨_, _, _, _, _, _, rfl, _⟩ := h; rfl) (t_filled (sp_check_stretch C C_OutOfRow) (sp_deed_in C T opFill)) (fun f cdv A outer s H E hr => d_filled c_check_stretch (by omega) c_filled_in (by omega) f cdv A outer s H E hr) p_filled
  have c_l_whole : Cal P w K mg base 1 "_law_whole" ["_law_found"] sp_l_whole := D_l_whole.cal (k := 0) sc_l_whole (fun vs H Q E h => by obtain ⟨_, rfl, _⟩ := h; rfl) (t_l_whole K) (fun f cdv A outer s H E hr => d_l_whole z_int z_isinstance z_bool f cdv A outer s H E hr) p_l_whole
  have c_l_cell_at : Cal P w K mg base 1 "_law_cell_at" ["_law_script", "_law_k"] (sp_l_cell_at K) := D_l_cell_at.cal (k := 0) sc_l_cell_at (fun vs H Q E h => by obtain ⟨_, _, _, rfl, _⟩ := h; rfl) (t_l_cell_at K) (fun f cdv A outer s H E hr => d_l_cell_at z_len f cdv A outer s H E hr) p_l_cell_at
  have c_l_number_by : Cal P w K mg base 1 "_law_number_by" ["_law_cell"] sp_l_number_by := D_l_number_by.cal (k := 0) sc_l_number_by (fun vs H Q E h => by obtain ⟨_, rfl, _⟩ := h; rfl) (t_l_number_by ) (fun f cdv A outer s H E hr => d_l_number_by f cdv A outer s H E hr) p_l_number_by
  have c_l_end_by13 : Cal P w K mg base 1 "_law_end_by" ["_law_cell", "_law_ends", "_law_many"] (sp_l_end_by13 K) := D_l_end_by13.cal (k := 0) sc_l_end_by13 (fun vs H Q E h => by obtain ⟨_, _, _, _, rfl, _⟩ := h; rfl) (t_l_end_by13 K) (fun f cdv A outer s H E hr => d_l_end_by13 z_len z_max z_min f cdv A outer s H E hr) p_l_end_by13
  have c_l_least_of : Cal P w K mg base 2 "_law_least_of" ["_law_some"] (sp_l_least_of K) := D_l_least_of.cal (k := 1) sc_l_least_of (fun vs H Q E h => by obtain ⟨_, _, rfl, _⟩ := h; rfl) (t_l_least_of K sp_l_whole) (fun f cdv A outer s H E hr => d_l_least_of c_l_whole (by omega) f cdv A outer s H E hr) p_l_least_of
  have c_l_changed13 : Cal P w K mg base 43 "_law_changed" ["_law_ahead", "_law_book", "_law_word", "_law_deed", "_law_begin", "_law_ending"] (sp_l_changed13 C) := D_l_changed13.cal (k := 42) sc_l_changed13 (fun vs H Q E h => by obtain ⟨_, _, _, _, _, _, _, _, _, _, _, rfl, _⟩ := h; rfl) (t_l_changed13 K (sp_total C C_OutOfRow 41) (sp_least C C_OutOfRow C_Nothing 41) sp_l_whole (sp_l_least_of K)) (fun f cdv A outer s H E hr => d_l_changed13 c_total (by omega) c_least (by omega) c_l_whole (by omega) c_l_least_of (by omega) z_max z_min f cdv A outer s H E hr) p_l_changed13
  have c_l_cut13 : Cal P w K mg base 44 "_law_cut" ["_law_book", "_law_begin", "_law_cut_here", "_law_ending"] (sp_l_cut13 C) := D_l_cut13.cal (k := 43) sc_l_cut13 (fun vs H Q E h => by obtain ⟨_, _, _, _, _, _, rfl, _⟩ := h; rfl) (t_l_cut13 K (sp_total C C_OutOfRow 41) (sp_least C C_OutOfRow C_Nothing 41) (sp_place C C_OutOfRow C_Nothing 41) sp_l_whole (sp_l_least_of K) (sp_listed C C_OutOfRow C_TooMany 41)) (fun f cdv A outer s H E hr => d_l_cut13 c_total (by omega) c_least (by omega) c_place (by omega) c_l_whole (by omega) c_l_least_of (by omega) c_listed (by omega) f cdv A outer s H E hr) p_l_cut13
  have c_l_first13 : Cal P w K mg base 43 "_law_first" ["_law_book", "_law_many", "_law_low", "_law_bound"] (sp_l_first13 C) := D_l_first13.cal (k := 42) sc_l_first13 (fun vs H Q E h => by obtain ⟨_, _, _, _, _, rfl, _⟩ := h; rfl) (t_l_first13 (sp_first C C_OutOfRow 41) (sp_least C C_OutOfRow C_Nothing 41) sp_l_whole) (fun f cdv A outer s H E hr => d_l_first13 c_first (by omega) c_least (by omega) c_l_whole (by omega) f cdv A outer s H E hr) p_l_first13
  have c_l_held : Cal P w K mg base 44 "_law_held" ["_law_book", "_law_low", "_law_high", "_law_bound"] (sp_l_held C) := D_l_held.cal (k := 43) sc_l_held (fun vs H Q E h => by obtain ⟨_, _, _, _, _, _, rfl, _⟩ := h; rfl) (t_l_held (sp_first C C_OutOfRow 41) (sp_place C C_OutOfRow C_Nothing 41)) (fun f cdv A outer s H E hr => d_l_held c_first (by omega) c_place (by omega) f cdv A outer s H E hr) p_l_held
  exact RB.Fun.fn F (n := 49) sc_law_k13 (fun vs H Q E h => by obtain ⟨_, _, rfl, _⟩ := h; rfl) (t_law_k13 K (sp_l_cell_at K) sp_l_number_by (sp_even C C_NoRow) (sp_l_end_by13 K) (sp_l_held C) (sp_deed C C_OutOfRow T opAdd) (sp_deed C C_OutOfRow T opFill) (sp_l_changed13 C) (sp_l_cut13 C) (sp_least C C_OutOfRow C_Nothing 41) (sp_l_first13 C)) (fun f cdv A outer s H E hr => d_law_k13 c_l_cell_at (by omega) c_l_number_by (by omega) c_even (by omega) c_l_end_by13 (by omega) c_l_held (by omega) c_added (by omega) c_filled (by omega) c_l_changed13 (by omega) c_l_cut13 (by omega) c_least (by omega) c_l_first13 (by omega) z_range z_len z_min z_max z_sorted f cdv A outer s H E hr) p_law_k13
end RB
open PySem PySem.W PyProof.Rows
set_option maxRecDepth 100000 in
set_option maxHeartbeats 0 in
theorem PySem.Challenge.cw_rangebook_k13_whole_answers_meet_holds : PySem.Challenge.rw_rangebook_k13_whole_answers_meet.Holds := by
  w_on; o_law; k_head; (case hw => w_witness2)
  k_fill
  refine RB.walkT (l := PySem.Challenge.rw_rangebook_k13_whole_answers_meet) (k := 50) rfl rfl ⟨rfl, by decide, by decide⟩ (fun w h Y => PySem.W.km_in_of Y) ?F
  case F =>
    intro w mg mb fa h mean KX G hmg GX TT
    refine' RB.law_mkT2 (st := RB.st_law_k13) (q1 := RB.q_added_in) (q2 := RB.q_filled_in) KX G hmg ?w1 ?w2 ?hla ?hll ?hlc ?hlk ?hlb ?hrun
    (case w1 => (refine' RB.TabW.mk' (x := "added_in") TT KX ?w1r ?w1a ?w1l ?w1c ?w1m ?w1v ?w1n; (case w1r => rfl); (case w1a => k_is); (case w1l => k_is); (case w1c => rfl); (case w1m => k_is); (case w1v => rfl); (case w1n => first | rfl | kernel_rfl)))
    (case w2 => (refine' RB.TabW.mk' (x := "filled_in") TT KX ?w2r ?w2a ?w2l ?w2c ?w2m ?w2v ?w2n; (case w2r => rfl); (case w2a => k_is); (case w2l => k_is); (case w2c => rfl); (case w2m => k_is); (case w2v => rfl); (case w2n => first | rfl | kernel_rfl)))
    (case hla => k_is); (case hll => k_is); (case hlc => k_is); (case hlk => k_is); (case hlb => exact fun s v => .of_eq rfl)
    case hrun =>
      intro base fd B1 B2 F
      refine' RB.run_k13 ?h_M_Tree ?h_X ?h_D_check_stretch ?h_D_even_tree ?h_D_joined ?h_D_raised ?h_D_halves ?h_D_added_in ?h_TB_added_in ?h_hm_added_in ?h_hu_added_in ?h_D_filled_in ?h_TB_filled_in ?h_hm_filled_in ?h_hu_filled_in ?h_D_changed ?h_D_total_in ?h_D_least_in ?h_D_first_in ?h_D_numbers_in ?h_D_changed_in ?h_D_total ?h_D_least ?h_D_place ?h_D_first ?h_D_even ?h_D_listed ?h_D_added ?h_D_filled ?h_D_l_whole ?h_D_l_cell_at ?h_D_l_number_by ?h_D_l_end_by13 ?h_D_l_least_of ?h_D_l_changed13 ?h_D_l_cut13 ?h_D_l_first13 ?h_D_l_held ?h_x_OutOfRow ?h_x_Nothing ?h_x_NoRow ?h_x_TooMany ?h_n_MOST_PLACES ?h_n_MOST_LISTED ?h_z_min ?h_z_max ?h_z_int ?h_z_isinstance ?h_z_bool ?h_z_len ?h_z_range ?h_z_sorted F
      (case h_M_Tree => (refine' RB.MkAt.mk' KX G ?h0aC ?h0a ?h0i ?h0l ?h0c ?h0k ?h0mk ?h0kc (fun _ _ _ _ _ _ us hl => match us, hl with | [_, _, _, _, _, _, _], _ => rfl); (case h0aC => k_is); (case h0a => k_is); (case h0i => k_is); (case h0l => k_is); (case h0c => k_is); (case h0k => k_is); (case h0mk => k_is); (case h0kc => k_is)))
      (case h_X => (refine' RB.Tx.mk' ?h1a1 ?h1a2 ?h1a3 ?h1a4 ?h1b1 ?h1b2 ?h1b3 ?h1b4 ?h1b5 ?h1b6; (case h1a1 => k_is); (case h1a2 => k_is); (case h1a3 => k_is); (case h1a4 => k_is); (case h1b1 => k_is); (case h1b2 => k_is); (case h1b3 => k_is); (case h1b4 => k_is); (case h1b5 => k_is); (case h1b6 => k_is)))
      (case h_D_check_stretch => (refine' RB.DefAt.mk' KX G ?h2a ?h2l ?h2c ?h2k (fun _ _ _ _ _ _ us hl => match us, hl with | [_, _, _], _ => rfl); (case h2a => k_is); (case h2l => k_is); (case h2c => k_is); (case h2k => k_is)))
      (case h_D_even_tree => (refine' RB.DefAt.mk' KX G ?h3a ?h3l ?h3c ?h3k (fun _ _ _ _ _ _ us hl => match us, hl with | [_, _], _ => rfl); (case h3a => k_is); (case h3l => k_is); (case h3c => k_is); (case h3k => k_is)))
      (case h_D_joined => (refine' RB.DefAt.mk' KX G ?h4a ?h4l ?h4c ?h4k (fun _ _ _ _ _ _ us hl => match us, hl with | [_, _, _], _ => rfl); (case h4a => k_is); (case h4l => k_is); (case h4c => k_is); (case h4k => k_is)))
      (case h_D_raised => (refine' RB.DefAt.mk' KX G ?h5a ?h5l ?h5c ?h5k (fun _ _ _ _ _ _ us hl => match us, hl with | [_, _], _ => rfl); (case h5a => k_is); (case h5l => k_is); (case h5c => k_is); (case h5k => k_is)))
      (case h_D_halves => (refine' RB.DefAt.mk' KX G ?h6a ?h6l ?h6c ?h6k (fun _ _ _ _ _ _ us hl => match us, hl with | [_], _ => rfl); (case h6a => k_is); (case h6l => k_is); (case h6c => k_is); (case h6k => k_is)))
      (case h_D_added_in => (refine' RB.DefAtL.mk' KX G ?h7a ?h7l ?h7c ?h7k (fun _ _ _ _ _ _ us hl => match us, hl with | [_, _, _, _], _ => rfl); (case h7a => k_is); (case h7l => k_is); (case h7c => k_is); (case h7k => k_is)))
      (case h_TB_added_in => (exact B1))
      (case h_hm_added_in => (simp))
      (case h_hu_added_in => (decide +kernel))
      (case h_D_filled_in => (refine' RB.DefAtL.mk' KX G ?h11a ?h11l ?h11c ?h11k (fun _ _ _ _ _ _ us hl => match us, hl with | [_, _, _, _], _ => rfl); (case h11a => k_is); (case h11l => k_is); (case h11c => k_is); (case h11k => k_is)))
      (case h_TB_filled_in => (exact B2))
      (case h_hm_filled_in => (simp))
      (case h_hu_filled_in => (decide +kernel))
      (case h_D_changed => (refine' RB.DefAt.mk' KX G ?h15a ?h15l ?h15c ?h15k (fun _ _ _ _ _ _ us hl => match us, hl with | [_, _, _, _], _ => rfl); (case h15a => k_is); (case h15l => k_is); (case h15c => k_is); (case h15k => k_is)))
      (case h_D_total_in => (refine' RB.DefAt.mk' KX G ?h16a ?h16l ?h16c ?h16k (fun _ _ _ _ _ _ us hl => match us, hl with | [_, _, _], _ => rfl); (case h16a => k_is); (case h16l => k_is); (case h16c => k_is); (case h16k => k_is)))
      (case h_D_least_in => (refine' RB.DefAt.mk' KX G ?h17a ?h17l ?h17c ?h17k (fun _ _ _ _ _ _ us hl => match us, hl with | [_, _, _], _ => rfl); (case h17a => k_is); (case h17l => k_is); (case h17c => k_is); (case h17k => k_is)))
      (case h_D_first_in => (refine' RB.DefAt.mk' KX G ?h18a ?h18l ?h18c ?h18k (fun _ _ _ _ _ _ us hl => match us, hl with | [_, _, _], _ => rfl); (case h18a => k_is); (case h18l => k_is); (case h18c => k_is); (case h18k => k_is)))
      (case h_D_numbers_in => (refine' RB.DefAtD.mk0 KX G ?h19a ?h19l ?h19lT ?h19dT ?h19c ?h19k 3 rfl (fun _ _ _ _ _ _ _ us its hl hi => match us, its, hl, hi with | [_, _, _, _], [_], _, _ => ⟨_, rfl, rfl⟩) (fun _ _ _ _ _ _ _ us its hl hi => match us, its, hl, hi with | [_, _, _], [_], _, _ => ⟨_, rfl, rfl⟩); (case h19a => k_is); (case h19l => k_is); (case h19lT => k_is); (case h19dT => rfl); (case h19c => k_is); (case h19k => k_is)))
      (case h_D_changed_in => (refine' RB.DefAt.mk' KX G ?h20a ?h20l ?h20c ?h20k (fun _ _ _ _ _ _ us hl => match us, hl with | [_, _, _, _, _], _ => rfl); (case h20a => k_is); (case h20l => k_is); (case h20c => k_is); (case h20k => k_is)))
      (case h_D_total => (refine' RB.DefAt.mk' KX G ?h21a ?h21l ?h21c ?h21k (fun _ _ _ _ _ _ us hl => match us, hl with | [_, _, _], _ => rfl); (case h21a => k_is); (case h21l => k_is); (case h21c => k_is); (case h21k => k_is)))
      (case h_D_least => (refine' RB.DefAt.mk' KX G ?h22a ?h22l ?h22c ?h22k (fun _ _ _ _ _ _ us hl => match us, hl with | [_, _, _], _ => rfl); (case h22a => k_is); (case h22l => k_is); (case h22c => k_is); (case h22k => k_is)))
      (case h_D_place => (refine' RB.DefAt.mk' KX G ?h23a ?h23l ?h23c ?h23k (fun _ _ _ _ _ _ us hl => match us, hl with | [_, _, _], _ => rfl); (case h23a => k_is); (case h23l => k_is); (case h23c => k_is); (case h23k => k_is)))
      (case h_D_first => (refine' RB.DefAt.mk' KX G ?h24a ?h24l ?h24c ?h24k (fun _ _ _ _ _ _ us hl => match us, hl with | [_, _, _], _ => rfl); (case h24a => k_is); (case h24l => k_is); (case h24c => k_is); (case h24k => k_is)))
      (case h_D_even => (refine' RB.DefAt.mk' KX G ?h25a ?h25l ?h25c ?h25k (fun _ _ _ _ _ _ us hl => match us, hl with | [_, _], _ => rfl); (case h25a => k_is); (case h25l => k_is); (case h25c => k_is); (case h25k => k_is)))
      (case h_D_listed => (refine' RB.DefAt.mk' KX G ?h26a ?h26l ?h26c ?h26k (fun _ _ _ _ _ _ us hl => match us, hl with | [_, _, _], _ => rfl); (case h26a => k_is); (case h26l => k_is); (case h26c => k_is); (case h26k => k_is)))
      (case h_D_added => (refine' RB.DefAt.mk' KX G ?h27a ?h27l ?h27c ?h27k (fun _ _ _ _ _ _ us hl => match us, hl with | [_, _, _, _], _ => rfl); (case h27a => k_is); (case h27l => k_is); (case h27c => k_is); (case h27k => k_is)))
      (case h_D_filled => (refine' RB.DefAt.mk' KX G ?h28a ?h28l ?h28c ?h28k (fun _ _ _ _ _ _ us hl => match us, hl with | [_, _, _, _], _ => rfl); (case h28a => k_is); (case h28l => k_is); (case h28c => k_is); (case h28k => k_is)))
      (case h_D_l_whole => (refine' RB.DefAt.mk' KX G ?h29a ?h29l ?h29c ?h29k (fun _ _ _ _ _ _ us hl => match us, hl with | [_], _ => rfl); (case h29a => k_is); (case h29l => k_is); (case h29c => k_is); (case h29k => k_is)))
      (case h_D_l_cell_at => (refine' RB.DefAt.mk' KX G ?h30a ?h30l ?h30c ?h30k (fun _ _ _ _ _ _ us hl => match us, hl with | [_, _], _ => rfl); (case h30a => k_is); (case h30l => k_is); (case h30c => k_is); (case h30k => k_is)))
      (case h_D_l_number_by => (refine' RB.DefAt.mk' KX G ?h31a ?h31l ?h31c ?h31k (fun _ _ _ _ _ _ us hl => match us, hl with | [_], _ => rfl); (case h31a => k_is); (case h31l => k_is); (case h31c => k_is); (case h31k => k_is)))
      (case h_D_l_end_by13 => (refine' RB.DefAt.mk' KX G ?h32a ?h32l ?h32c ?h32k (fun _ _ _ _ _ _ us hl => match us, hl with | [_, _, _], _ => rfl); (case h32a => k_is); (case h32l => k_is); (case h32c => k_is); (case h32k => k_is)))
      (case h_D_l_least_of => (refine' RB.DefAt.mk' KX G ?h33a ?h33l ?h33c ?h33k (fun _ _ _ _ _ _ us hl => match us, hl with | [_], _ => rfl); (case h33a => k_is); (case h33l => k_is); (case h33c => k_is); (case h33k => k_is)))
      (case h_D_l_changed13 => (refine' RB.DefAt.mk' KX G ?h34a ?h34l ?h34c ?h34k (fun _ _ _ _ _ _ us hl => match us, hl with | [_, _, _, _, _, _], _ => rfl); (case h34a => k_is); (case h34l => k_is); (case h34c => k_is); (case h34k => k_is)))
      (case h_D_l_cut13 => (refine' RB.DefAt.mk' KX G ?h35a ?h35l ?h35c ?h35k (fun _ _ _ _ _ _ us hl => match us, hl with | [_, _, _, _], _ => rfl); (case h35a => k_is); (case h35l => k_is); (case h35c => k_is); (case h35k => k_is)))
      (case h_D_l_first13 => (refine' RB.DefAt.mk' KX G ?h36a ?h36l ?h36c ?h36k (fun _ _ _ _ _ _ us hl => match us, hl with | [_, _, _, _], _ => rfl); (case h36a => k_is); (case h36l => k_is); (case h36c => k_is); (case h36k => k_is)))
      (case h_D_l_held => (refine' RB.DefAt.mk' KX G ?h37a ?h37l ?h37c ?h37k (fun _ _ _ _ _ _ us hl => match us, hl with | [_, _, _, _], _ => rfl); (case h37a => k_is); (case h37l => k_is); (case h37c => k_is); (case h37k => k_is)))
      (case h_x_OutOfRow => (refine' RB.ExcAt.mk' KX G ?h38a ?h38q ?h38k ?h38b ?h38t; (case h38a => k_is); (case h38q => k_exc); (case h38k => k_is); (case h38b => k_is); (case h38t => k_is)))
      (case h_x_Nothing => (refine' RB.ExcAt.mk' KX G ?h39a ?h39q ?h39k ?h39b ?h39t; (case h39a => k_is); (case h39q => k_exc); (case h39k => k_is); (case h39b => k_is); (case h39t => k_is)))
      (case h_x_NoRow => (refine' RB.ExcAt.mk' KX G ?h40a ?h40q ?h40k ?h40b ?h40t; (case h40a => k_is); (case h40q => k_exc); (case h40k => k_is); (case h40b => k_is); (case h40t => k_is)))
      (case h_x_TooMany => (refine' RB.ExcAt.mk' KX G ?h41a ?h41q ?h41k ?h41b ?h41t; (case h41a => k_is); (case h41q => k_exc); (case h41k => k_is); (case h41b => k_is); (case h41t => k_is)))
      (case h_n_MOST_PLACES => (exact RB.num_of GX (by first | exact .head _ | exact .tail _ (.head _) | exact .tail _ (.tail _ (.head _)))))
      (case h_n_MOST_LISTED => (refine' ⟨_, (PySem.W.mg_of KX G ?h43a).trans ?h43b⟩; (case h43a => k_is); (case h43b => rfl)))
      (case h_z_min => (refine' PySem.W.mg_none_of KX G ?h44a; (case h44a => k_is)))
      (case h_z_max => (refine' PySem.W.mg_none_of KX G ?h45a; (case h45a => k_is)))
      (case h_z_int => (refine' PySem.W.mg_none_of KX G ?h46a; (case h46a => k_is)))
      (case h_z_isinstance => (refine' PySem.W.mg_none_of KX G ?h47a; (case h47a => k_is)))
      (case h_z_bool => (refine' PySem.W.mg_none_of KX G ?h48a; (case h48a => k_is)))
      (case h_z_len => (refine' PySem.W.mg_none_of KX G ?h49a; (case h49a => k_is)))
      (case h_z_range => (refine' PySem.W.mg_none_of KX G ?h50a; (case h50a => k_is)))
      (case h_z_sorted => (refine' PySem.W.mg_none_of KX G ?h51a; (case h51a => k_is)))
