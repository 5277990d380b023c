import PyProof.Rows.All
import Wide.All
import OpenK.AllK
import Wide.FinOn
import HandS.ForMost
import HandS.ForExc
import HandS.Wide
import HandS.IsInst
import HandS.ExcIs
import KE.KEqSeq
import KE.KEqDeep
import HandS.Lambda
import HandS.Nested
import HandS.Defaults
import PySem.Challenge.RW_rangebook_k03_totals
set_option Elab.async false
set_option linter.all false
set_option maxRecDepth 100000
set_option maxHeartbeats 4000000
namespace RB
open PySem PySem.Spec PyProof.Rows L2
def nAdd : R2 := rI0 fun i j => .int (i + j)
def nSub : R2 := rI0 fun i j => .int (i - j)
def nMul : R2 := rI CMul fun i j => .int (i * j)
def nMulW : R2 := rI CMulW fun i j => .int (i * j)
def nDiv : R2 := rI CDiv fun i j => .int (i / j)
def nMod : R2 := rI (fun _ j => 0 < j) fun i j => .int (i % j)
def nPow : R2 := rI CPow fun i j => .int (i ^ j.toNat)
def nLt : R2 := rI0 fun i j => .bl (decide (i < j))
def nLe : R2 := rI0 fun i j => .bl (decide (i ≤ j))
def nGt : R2 := rI0 fun i j => .bl (decide (j < i))
def nGe : R2 := rI0 fun i j => .bl (decide (j ≤ i))
def nIs : R2 := fun x y H Q => y = .non ∧ Q (.bl (decide (x = .non))) H
def nIsNot : R2 := fun x y H Q => y = .non ∧ Q (.bl (!decide (x = .non))) H
def nNeg : V → Hp → VK → Prop := rU fun i => .int (-i)
def nMax : List V → Hp → VK → Prop := fun xs H Q => ∃ i j, xs = [.int i, .int j] ∧ Q (.int (if j > i then j else i)) H
def nMin : List V → Hp → VK → Prop := fun xs H Q => ∃ i j, xs = [.int i, .int j] ∧ Q (.int (if j < i then j else i)) H
def nLen (K : PySem.W.Frag) : List V → Hp → VK → Prop := fun xs H Q => ∃ p ys, xs = [.ref p] ∧ (SqL K H p ys ∨ SqT K H p ys) ∧ Q (.int ys.length) H
def nList (K : PySem.W.Frag) : List V → Hp → VK → Prop := fun xs H Q => ∃ p ys, xs = [.ref p] ∧ (SqL K H p ys ∨ SqT K H p ys) ∧ ∀ l, H l = none → Q (.ref l) (upd H l (.lst ys))
def nTru (K : PySem.W.Frag) (ta : TE) : TT := fun σ H Q => ta σ H fun x H' => ∃ k, TruV K x H' k ∧ Q k H'
section
variable {X : Cx}
theorem oAdd : OpR X (binaryOp .Add) nAdd := op_add
theorem oSub : OpR X (binaryOp .Sub) nSub := op_sub
theorem oMul : OpR X (binaryOp .Mult) nMul := op_mul
theorem oMulW : OpR X (binaryOp .Mult) nMulW := op_mulW
theorem oDiv : OpR X (binaryOp .FloorDiv) nDiv := op_fdiv
theorem oMod : OpR X (binaryOp .Mod) nMod := op_mod
theorem oPow : OpR X (binaryOp .Pow) nPow := op_pow
theorem oLt : OpR X (compareOp .Lt) nLt := op_lt
theorem oLe : OpR X (compareOp .LtE) nLe := op_le
theorem oGt : OpR X (compareOp .Gt) nGt := op_gt
theorem oGe : OpR X (compareOp .GtE) nGe := op_ge
theorem oIs : OpR X (compareOp .Is) nIs := op_isN
theorem cMax (hc : X.calm = true) : CallR X (.builtin "max") nMax := call_max2 hc
theorem cMin (hc : X.calm = true) : CallR X (.builtin "min") nMin := call_min2 hc
theorem cLen : CallR X (.builtin "len") (nLen X.K) := call_len_seq
theorem cList : CallR X (.type "list") (nList X.K) := call_list_of
theorem pe_num {x : Str} {pos : Pos} {n : Int} (hg : Gl X x) (h : ∃ t, X.mg x = some (.int n t)) (hd : (x == ("__debug__" : Str)) = false := by decide) : PE X (.Name x pos) (tC (.int n)) := by
  obtain ⟨t, h⟩ := h
  exact pe_glob hg h ⟨t, rfl⟩ hd
end
structure DefAt (K : PySem.W.Frag) (mg : Str → Option Value) (x : Str) (st : Stmt) (ps : List Str) : Prop where
  ex : ∃ f fd, Fun K x x st f fd ∧ mg x = some (.ref f) ∧ Binds K fd ps []
structure Cal (P : Program) (w : World) (K : PySem.W.Frag) (mg : Str → Option Value) (base : Heap) (k : Nat) (x : Str) (ps : List Str) (sp : Sp) : Prop where
  ex : ∃ f fd, FnOk P w K mg base (L2.CX P w) k f fd ps sp ∧ mg x = some (.ref f) ∧ PySem.W.keepIn K (.ref f) = true ∧ Binds K fd ps []
section
variable {P : Program} {w : World} {K : PySem.W.Frag} {mg : Str → Option Value} {base : Heap} {x : Str} {st : Stmt} {ps N : List Str} {sp : Sp} {k : Nat}
theorem DefAt.cal (D : DefAt K mg x st ps) (S : FnScope N ps (defScope st)) (len : ∀ vs H Q E, sp vs H Q E → vs.length = ps.length) (t : XK → TS)
    (der : ∀ (f : Addr) (cdv : Value) (A : Around) (outer : List Env) (s : Shared) (H : Hp) (E : XK), Room k (A.deeper (envOfC x (defScope st) s.heap.objs.size f cdv)) → PSs (cxOf (L2.CX P w) P w K mg base N x (defScope st) f cdv A outer s H E) (defBody st) (t E))
    (pure : ∀ vs H Q E, sp vs H Q E → t E { nx := fun _ H' => Q .non H', rt := Q } (start N vs) H) : Cal P w K mg base (k + 1) x ps sp := by
  obtain ⟨f, fd, F, hm, hb⟩ := D.ex
  exact ⟨f, fd, F.okX S len fun cdv A outer s H vs Q E hr h => ⟨t E, der f cdv A outer s H E hr, pure vs H Q E h⟩, hm, F.kp, hb⟩
theorem Cal.mono {j : Nat} (C : Cal P w K mg base j x ps sp) (h : j ≤ k) : Cal P w K mg base k x ps sp := by
  obtain ⟨f, fd, F, hm, hk, hb⟩ := C.ex
  exact ⟨f, fd, F.mono h, hm, hk, hb⟩
theorem DefAt.none (D : DefAt K mg x st ps) (no : ∀ vs H Q E, ¬ sp vs H Q E) : Cal P w K mg base k x ps sp := by
  obtain ⟨f, fd, F, hm, hb⟩ := D.ex
  exact ⟨f, fd, ⟨fun vs H Q E h => absurd h (no vs H Q E), fun A outer s H args us vs Q E _ _ _ _ h => absurd h (no vs H Q E)⟩, hm, F.kp, hb⟩
end
theorem pass_own {P : Program} {w : World} {K : PySem.W.Frag} {mg : Str → Option Value} {base : Heap} {N : List Str} {q : Str} {sc : Scope} {f : Addr} {cd : Value} {A : Around} {outer : List Env} {s : Shared} {H : Hp} {E : XK} :
    Passes (L2.CX P w) (cxOf (L2.CX P w) P w K mg base N q sc f cd A outer s H E) E :=
  fun pins σ H s e s' I c => passes_call (takes_of rfl rfl rfl rfl) (fun _ _ _ _ z => z) pins σ H s e s' I c
section
variable {X : Cx} {k j : Nat} {ps : List Str} {sp : Sp} {E : XK} {x : Str} {p pos : Pos} {e : Expr} {es : List Expr} {t : TA}
theorem pe_callC (C : Cal X.prog X.w X.K X.mg X.base k x ps sp) (hr : Room j X.A) (hj : k ≤ j) (hg : Gl X x) (hx : Passes (L2.CX X.prog X.w) X E) (ha : PA X (e :: es) t)
    (hdb : (x == ("__debug__" : Str)) = false := by decide) (he : starEach (e :: es) X.env = (false, eval e X.env) :: starEach es X.env := by rfl) (hpl : (backTo pos (starEach es X.env)).any (·.1) = false := by rfl) :
    PE X (.Call (.Name x p) (e :: es) [] pos) (tCall sp [] E t) := by
  obtain ⟨f, fd, F, hm, hk, hb⟩ := C.ex
  exact pe_call F (hr.mono hj) hg hm hk hb .nil hx ha hdb he hpl
end
def tRaise (E : XK) (C : Addr) : TS := fun _ _ H => E (.ref C) none H
structure ExcAt (K : PySem.W.Frag) (mg : Str → Option Value) (x : Str) (C : Addr) : Prop where
  g : mg x = some (.ref C)
  q : PySem.W.excIn K C [.type "ValueError", .type "Exception", .type "BaseException", .type "object"] "ValueError.__new__" = true
  k : PySem.W.keepIn K (.ref C) = true
  b : PySem.W.subIn K (.ref C) (.type "BaseException") = some true
  t : PySem.W.typeIn K (.ref C) = some (.type "type")
theorem ps_raiseC {P : Program} {w : World} {K : PySem.W.Frag} {mg : Str → Option Value} {base : Heap} {N : List Str} {q : Str} {sc : Scope} {f : Addr} {cd : Value} {A : Around} {outer : List Env} {s : Shared} {H : Hp} {E : XK}
    {x m : Str} {C : Addr} {j : Nat} {p p2 pos pos2 : Pos} (T : ExcAt K mg x C) (hg : Gl (cxOf (L2.CX P w) P w K mg base N q sc f cd A outer s H E) x) (hdb : (x == ("__debug__" : Str)) = false := by decide) :
    PS (cxOf (L2.CX P w) P w K mg base N q sc f cd A outer s H E) (.Raise (some (.Call (.Name x p) [.Constant (.str m) j p2] [] pos)) none pos2) (tRaise E C) :=
  ps_raise (W := fun cls d _ H => E cls d H) rfl (takes_of rfl rfl rfl rfl) (pmk_own PySem.F.excBase_ValueError T.q T.g T.k (raises_own T.b T.t) hg hdb)
def tChain3 (r r' r2 : R2) (ta tb tc td : TE) : TE := fun σ H Q => ta σ H fun x H1 => tb σ H1 fun y H2 => r x y H2 fun z H3 => ∃ k, z = .bl k ∧
  (if k = true then tc σ H3 fun w' H4 => r' y w' H4 fun z' H5 => ∃ k', z' = .bl k' ∧ (if k' = true then td σ H5 fun u' H6 => r2 w' u' H6 Q else Q (.bl false) H5) else Q (.bl false) H3)
theorem pt_chain3 {X : Cx} {a b c d : Expr} {ta tb tc td : TE} {pos : Pos} {op op' op2 : CmpOp} {r r' r2 : R2} (ho : OpR X (compareOp op) r) (ho' : OpR X (compareOp op') r') (ho2 : OpR X (compareOp op2) r2) (ha : PE X a ta) (hb : PE X b tb) (hc : PE X c tc) (hd : PE X d td)
    (hm : lastMarks [op, op', op2] [b, c, d] = false := by with_unfolding_all rfl) : PT X (.Compare a [op, op', op2] [b, c, d] pos) (tTest (tChain3 r r' r2 ta tb tc td)) := by
  refine ⟨fun pins s σ H Q I h => ?_⟩
  refine isTrue_chain (thn (ha.run pins s σ H _ I h) fun v s1 ⟨x, H1, I1, r1, q1⟩ => test_link (thn (hb.run pins s1 σ H1 _ I1 q1) fun u s2 ⟨y, H2, I2, r2, q2⟩ =>
    thn (ho pins s2 σ H2 x y v u _ I2 r1 r2 q2) fun d s3 ⟨z, H3, I3, r3, k, e, q3⟩ => ?_)) hm
  subst e
  cases r3
  refine wpAny_truthy_bool ?_
  cases k with
  | false =>
    obtain ⟨k', e', q'⟩ := q3
    cases e'
    exact ite_ff ⟨H3, I3, q'⟩
  | true =>
    refine ite_tt (test_link (thn (hc.run pins s3 σ H3 _ I3 q3) fun w' s4 ⟨z', H4, I4, r4, q4⟩ => thn (ho' pins s4 σ H4 y z' u w' _ I4 r2 r4 q4) fun d' s5 ⟨z2, H5, I5, r5, k2, e2, q5⟩ => ?_))
    subst e2
    cases r5
    refine wpAny_truthy_bool ?_
    cases k2 with
    | false =>
      obtain ⟨k', e', q'⟩ := q5
      cases e'
      exact ite_ff ⟨H5, I5, q'⟩
    | true =>
      refine ite_tt (test_last (thn (hd.run pins s5 σ H5 _ I5 q5) fun w2 s6 ⟨z3, H6, I6, r6, q6⟩ => thn (ho2 pins s6 σ H6 z' z3 w' w2 _ I6 r4 r6 q6) fun d2 s7 ⟨z4, H7, I7, r7, k4, e4, q7⟩ => ?_))
      subst e4
      cases r7
      exact wpAny_truthy_bool ⟨H7, I7, q7⟩
structure CalMk (P : Program) (w : World) (K : PySem.W.Frag) (mg : Str → Option Value) (base : Heap) (k : Nat) (x : Str) (C : Addr) (ps : List Str) (sp : Sp) : Prop where
  ex : ∃ f fd, Mk K C f ∧ FnOk P w K mg base (L2.CX P w) k f fd ps sp ∧ mg x = some (.ref C) ∧ Binds K fd ps []
section
variable {X : Cx} {k j : Nat} {C : Addr} {ps : List Str} {sp : Sp} {E : XK} {x : Str} {p pos : Pos} {e : Expr} {es : List Expr} {t : TA}
theorem pe_makeC (M : CalMk X.prog X.w X.K X.mg X.base k x C ps sp) (hr : Room j X.A) (hj : k + 1 ≤ j) (hg : Gl X x) (hx : Passes (L2.CX X.prog X.w) X E) (ha : PA X (e :: es) t)
    (hdb : (x == ("__debug__" : Str)) = false := by decide) (he : starEach (e :: es) X.env = (false, eval e X.env) :: starEach es X.env := by rfl) (hpl : (backTo pos (starEach es X.env)).any (·.1) = false := by rfl) :
    PE X (.Call (.Name x p) (e :: es) [] pos) (tMake C sp [] E t) := by
  obtain ⟨f, fd, hM, F, hm, hb⟩ := M.ex
  exact pe_make hM F (hr.mono hj) hg hm hb .nil hx ha hdb he hpl
end
def nTry (K : PySem.W.Frag) (c : Value) (E : XK) (tb : WX → TS) (ts : Addr → Value → Option Addr → TS) : TS := fun D σ H => tb (wOnly K c ts (fun cls d _ H => E cls d H) D) D σ H
def nTryAs (K : PySem.W.Frag) (c : Value) (i : Nat) (E : XK) (tb : WX → TS) (ts : Addr → Value → Option Addr → TS) : TS := fun D σ H => tb (wAs K c i ts (fun cls d _ H => E cls d H) D) D σ H
def tKnown (cls : Value) (d : Option Addr) (C : Value) (t : TS) : TS := fun D σ H => cls = C ∧ d = none ∧ t D σ H
end RB
namespace RB
open PySem PySem.Spec PyProof.Rows L2
section
variable {i j : Int} {H : Hp} {Q : VK} {σ : L2.St} {K : PySem.W.Frag} {x y v : V}
theorem nAdd_ap : nAdd (.int i) (.int j) H Q = Q (.int (i + j)) H := by simp [nAdd, rI0]
theorem nSub_ap : nSub (.int i) (.int j) H Q = Q (.int (i - j)) H := by simp [nSub, rI0]
theorem nLt_ap : nLt (.int i) (.int j) H Q = Q (.bl (decide (i < j))) H := by simp [nLt, rI0]
theorem nLe_ap : nLe (.int i) (.int j) H Q = Q (.bl (decide (i ≤ j))) H := by simp [nLe, rI0]
theorem nGt_ap : nGt (.int i) (.int j) H Q = Q (.bl (decide (j < i))) H := by simp [nGt, rI0]
theorem nGe_ap : nGe (.int i) (.int j) H Q = Q (.bl (decide (j ≤ i))) H := by simp [nGe, rI0]
theorem nMul_ap : nMul (.int i) (.int j) H Q = (CMul i j ∧ Q (.int (i * j)) H) := by simp [nMul, rI]
theorem nMulW_ap : nMulW (.int i) (.int j) H Q = (CMulW i j ∧ Q (.int (i * j)) H) := by simp [nMulW, rI]
theorem nDiv_ap : nDiv (.int i) (.int j) H Q = (CDiv i j ∧ Q (.int (i / j)) H) := by simp [nDiv, rI]
theorem nMod_ap : nMod (.int i) (.int j) H Q = (0 < j ∧ Q (.int (i % j)) H) := by simp [nMod, rI]
theorem nPow_ap : nPow (.int i) (.int j) H Q = (CPow i j ∧ Q (.int (i ^ j.toNat)) H) := by simp [nPow, rI]
theorem nNeg_ap : nNeg (.int i) H Q = Q (.int (-i)) H := by simp [nNeg, rU]
theorem nMax_ap : nMax [.int i, .int j] H Q = Q (.int (max i j)) H := by
  have e : (if j > i then j else i) = max i j := by split <;> omega
  apply propext
  constructor
  · rintro ⟨a, b, h, q⟩
    cases h
    rw [e] at q
    exact q
  · intro q
    exact ⟨i, j, rfl, by rw [e]; exact q⟩
theorem nMin_ap : nMin [.int i, .int j] H Q = Q (.int (min i j)) H := by
  have e : (if j < i then j else i) = min i j := by split <;> omega
  apply propext
  constructor
  · rintro ⟨a, b, h, q⟩
    cases h
    rw [e] at q
    exact q
  · intro q
    exact ⟨i, j, rfl, by rw [e]; exact q⟩
theorem rEq_ap : rEq (.int i) (.int j) H Q = Q (.bl (decide (i = j))) H := by simp [rEq, scal]
theorem rNe_ap : rNe (.int i) (.int j) H Q = Q (.bl (!decide (i = j))) H := by simp [rNe, scal]
theorem nIs_ap : nIs x .non H Q = Q (.bl (decide (x = .non))) H := by simp [nIs]
theorem nIsNot_ap : nIsNot x .non H Q = Q (.bl (!decide (x = .non))) H := by simp [nIsNot]
theorem ex_bl {b : Bool} {p : Bool → Prop} : (∃ x, V.bl b = V.bl x ∧ p x) = p b := by simp
theorem ex_int {b : Int} {p : Int → Prop} : (∃ x, V.int b = V.int x ∧ p x) = p b := by simp
theorem ex_some {a : V} {p : V → Prop} : (∃ x, (some (some a) : Option (Option V)) = some (some x) ∧ p x) = p a := by simp
theorem dec_int_non : decide (V.int i = V.non) = false := rfl
theorem dec_ref_non {p : Addr} : decide (V.ref p = V.non) = false := rfl
theorem dec_non_non : decide (V.non = V.non) = true := rfl
theorem nLen_ap {p : Addr} {ys : List V} (h : SqL K H p ys) (q : Q (.int ys.length) H) : nLen K [.ref p] H Q := ⟨p, ys, rfl, .inl h, q⟩
def nFld (K : PySem.W.Frag) (f : Str) (x : V) (H : Hp) (Q : VK) : Prop := ∃ a C dx fs v, x = V.ref a ∧ H a = some (.ins C dx fs) ∧ Cls K C ∧ NoAttr K C f ∧ fs.lookup f = some v ∧ Q v H
theorem tFld_ap {ta : TE} {f : Str} : tFld K ta f σ H Q = ta σ H fun x H1 => nFld K f x H1 Q := rfl
theorem nFld_ap {f : Str} {a C dx : Addr} {fs : List (Str × V)} (h : H a = some (.ins C dx fs)) (c : Cls K C) (n : NoAttr K C f) (l : fs.lookup f = some v) : nFld K f (.ref a) H Q = Q v H := by
  apply propext
  constructor
  · rintro ⟨a', C', dx', fs', v', e, h', _, _, l', q⟩
    cases e
    rw [h] at h'
    cases h'
    rw [l] at l'
    cases l'
    exact q
  · intro q
    exact ⟨a, C, dx, fs, v, rfl, h, c, n, l, q⟩
theorem isi_int_int : rIsi K [.int i, .ty "int"] H Q = Q (.bl true) H := by
  apply propext
  constructor
  · rintro ⟨x, c, t, u, b, e, k, ty, ki, q⟩
    cases e
    cases k
    cases ty with
    | base h => cases h; cases (show PySem.W.kitOne K (.type "int") (.type "int") = some true from kit_ty (by decide +kernel)).symm.trans ki; exact q
  · intro q
    exact ⟨_, _, _, _, true, rfl, .ty _, .base (.int i), kit_ty (by decide +kernel), q⟩
theorem isi_int_bool : rIsi K [.int i, .ty "bool"] H Q = Q (.bl false) H := by
  apply propext
  constructor
  · rintro ⟨x, c, t, u, b, e, k, ty, ki, q⟩
    cases e
    cases k
    cases ty with
    | base h => cases h; cases (show PySem.W.kitOne K (.type "int") (.type "bool") = some false from kit_ty (by decide +kernel)).symm.trans ki; exact q
  · intro q
    exact ⟨_, _, _, _, false, rfl, .ty _, .base (.int i), kit_ty (by decide +kernel), q⟩
theorem ite_tt' {A B : Prop} : (if true = true then A else B) = A := by simp
theorem ite_ff' {A B : Prop} : (if false = true then A else B) = B := by simp
end
theorem same_new {H : Hp} {p : Addr} (h : H p = none) (o : HO) : Same H (upd H p o) := fun b u q => by rw [upd_ne (ne_of_none q h)]; exact q
def Ins (H H' : Hp) : Prop := ∀ b C dx fs, H b = some (.ins C dx fs) → H' b = some (.ins C dx fs)
theorem Ins.trans {H H1 H2 : Hp} (a : Ins H H1) (b : Ins H1 H2) : Ins H H2 := fun x C dx fs h => b x C dx fs (a x C dx fs h)
theorem Ins.same {H H' : Hp} (s : Same H H') : Ins H H' := fun b C dx fs h => s b _ h
theorem Ins.lst {H : Hp} {p : Addr} {xs : List V} (h : H p = some (.lst xs)) (ys : List V) : Ins H (upd H p (.lst ys)) := fun b C dx fs q => by
  rw [upd_ne (ne_of q h (by intro z; cases z))]
  exact q
theorem ref_non {p : Addr} : (V.ref p = V.non) = False := by simp
theorem int_non {i : Int} : (V.int i = V.non) = False := by simp
theorem non_ref {p : Addr} : (V.non = V.ref p) = False := by simp
theorem non_int {i : Int} : (V.non = V.int i) = False := by simp
theorem size_of {n : Nat} (h : n ≤ 16000000) : n < sizeLine := Nat.lt_of_le_of_lt h (by decide)
theorem wipe_one {σ : L2.St} {i : Nat} {x : V} : wipe ((wipe σ [i]).set i (some x)) [i] = wipe σ [i] := by
  simp [wipe, List.set_set]
theorem take_more {α : Type} {l : List α} {i : Nat} {x : α} (h : l[i]? = some x) : l.take (i + 1) = l.take i ++ [x] := by
  rw [List.take_add_one, h]
  rfl
def nLc (K : PySem.W.Frag) (elt : TE) (i : Nat) (σ : L2.St) (x : V) (H : Hp) (Q : VK) : Prop := tLc (iList K (tC x)) (gName i) tYes elt [i] σ H Q
theorem tLc_ap {K : PySem.W.Frag} {te elt : TE} {i : Nat} {σ : L2.St} {H : Hp} {Q : VK} : tLc (iList K te) (gName i) tYes elt [i] σ H Q = te σ H fun x H1 => nLc K elt i σ x H1 Q := rfl
def nLcR (elt : TE) (i : Nat) (σ : L2.St) (vs : List V) (H : Hp) (Q : VK) : Prop := tLc (iRng1 fun _ H Q => Q vs H) (gName i) tYes elt [i] σ H Q
theorem tLcR_ap {ta : TA} {elt : TE} {i : Nat} {σ : L2.St} {H : Hp} {Q : VK} : tLc (iRng1 ta) (gName i) tYes elt [i] σ H Q = ta σ H fun vs H1 => nLcR elt i σ vs H1 Q := rfl
theorem lc_rng {elt : TE} {i : Nat} {σ : L2.St} {H : Hp} {Q : VK} {n : Int} {ys : List V} (h0 : -(2 ^ 62) ≤ n) (hz : n ≤ 16000000) (hl : ys.length = n.toNat)
    (he : ∀ (j : Nat) (y : V) (H' : Hp) (Q' : VK), (j : Int) < n → ys[j]? = some y → Same H H' → Q' y H' → elt ((wipe σ [i]).set i (some (.int j))) H' Q')
    (q : ∀ (D : Addr) (H' : Hp), Same H H' → H D = none → H' D = some (.lst ys) → Q (.ref D) H') : nLcR elt i σ [.int n] H Q := by
  refine ⟨n, rfl, h0, by omega, fun D hD => lc_range (lo := 0) (n := n.toNat) (fun k H' => Same H H' ∧ H' D = some (.lst (ys.take k))) ?_ ?_ ?_⟩
  · exact ⟨same_new hD _, upd_same⟩
  · rintro k H' hk ⟨s, hd⟩
    have hy : ys[k]? = some ys[k] := List.getElem?_eq_getElem (by omega)
    rw [show (0 : Int) + (k : Int) = (k : Int) by omega]
    refine ⟨wipe_one, ?_⟩
    simp only [tYes, if_true]
    refine he k _ H' _ (by omega) hy s ⟨_, hd, ?_, ?_, ?_⟩
    · rw [List.length_take]
      exact Nat.lt_of_le_of_lt (Nat.min_le_left _ _) (size_of (by omega))
    · intro b u z
      rw [upd_ne (ne_of_none z hD)]
      exact s b u z
    · rw [upd_same, take_more hy]
  · rintro H' ⟨s, hd⟩
    rw [← hl, List.take_length] at hd
    exact q D H' s hD hd
theorem ixL_ap {K : PySem.W.Frag} {H : Hp} {Q : VK} {p : Addr} {xs : List V} {j : Nat} {v : V} (h : SqL K H p xs) (hj : xs[j]? = some v) (q : Q v H) : rIxL K (.ref p) (.int j) H Q :=
  ⟨p, xs, j, v, rfl, rfl, h, atI_nat hj, q⟩
theorem list_ap {K : PySem.W.Frag} {H : Hp} {Q : VK} {p : Addr} {ys : List V} (h : SqL K H p ys) (q : ∀ l, H l = none → Q (.ref l) (upd H l (.lst ys))) : nList K [.ref p] H Q := ⟨p, ys, rfl, .inl h, q⟩
def nFor (K : PySem.W.Frag) (i : Nat) (tb : TS) (x : V) (D : Ends) (σ : L2.St) (H : Hp) : Prop := tFor (iList K (tC x)) (gName i) tb D σ H
theorem tFor_ap {K : PySem.W.Frag} {te : TE} {i : Nat} {tb : TS} {D : Ends} {σ : L2.St} {H : Hp} : tFor (iList K te) (gName i) tb D σ H = te σ H fun x H1 => nFor K i tb x D σ H1 := rfl
theorem slL_ap {K : PySem.W.Frag} {H : Hp} {Q : VK} {p : Addr} {xs : List V} {lo hi : Option Int} (h : SqL K H p xs) (q : ∀ r, H r = none → Q (.ref r) (upd H r (.lst (cutV xs lo hi)))) : rSlL K (.ref p) lo hi H Q := ⟨p, xs, rfl, h, q⟩
def nForR (i : Nat) (tb : TS) (vs : List V) (D : Ends) (σ : L2.St) (H : Hp) : Prop := tFor (iRng1 fun _ H Q => Q vs H) (gName i) tb D σ H
theorem tForR_ap {ta : TA} {i : Nat} {tb : TS} {D : Ends} {σ : L2.St} {H : Hp} : tFor (iRng1 ta) (gName i) tb D σ H = ta σ H fun vs H1 => nForR i tb vs D σ H1 := rfl
def nForR2 (i : Nat) (tb : TS) (vs : List V) (D : Ends) (σ : L2.St) (H : Hp) : Prop := tFor (iRng2 fun _ H Q => Q vs H) (gName i) tb D σ H
theorem tForR2_ap {ta : TA} {i : Nat} {tb : TS} {D : Ends} {σ : L2.St} {H : Hp} : tFor (iRng2 ta) (gName i) tb D σ H = ta σ H fun vs H1 => nForR2 i tb vs D σ H1 := rfl
end RB
namespace RB
open PySem PySem.Spec PyProof.Rows L2 LamX NdefX
def lamAr : Expr → Arguments
  | .Lambda a _ _ _ => a
  | _ => ⟨[], [], none, [], [], none, []⟩
def lamE : Expr → Expr
  | .Lambda _ e _ _ => e
  | e => e
def lamSc : Expr → Scope
  | .Lambda _ _ s _ => s
  | _ => ⟨.function, [], false, false, []⟩
structure LF where
  q : Str
  l : Expr
  cl : List (Str × Addr)
  c : Addr
def LF.fd (F : LF) (pm ctv : Value) : FuncData := PySem.W.kla_fn "<lambda>" F.q (lamAr F.l) (lamE F.l) (lamSc F.l) F.cl pm (.ref F.c) ctv
structure GL (f : Addr) (F : LF) (fr : List Str) (ws : List (Option V)) (outer : List Env) (s : Shared) (H : Hp) : Prop where
  at_ : ∃ pm ctv : Value, s.heap.get? f = some ({ cls := .type "function", data := .func (F.fd pm ctv) } : Obj)
  free : H f = none
  nofr : f ∉ frs outer
  cells : CellsAt F.cl fr ws s.heap H
  cfr : ∀ y c, F.cl.lookup y = some c → c ∉ frs outer
section
variable {P : Program} {w : World} {K : PySem.W.Frag} {mg : Str → Option Value} {base : Heap} {f : Addr} {F : LF} {ps fr N : List Str} {ws : List (Option V)} {sp : Sp} {k j : Nat}
structure LOk (P : Program) (w : World) (K : PySem.W.Frag) (mg : Str → Option Value) (base : Heap) (k : Nat) (f : Addr) (F : LF) (fr : List Str) (ws : List (Option V)) (sp : Sp) : Prop where
  run : ∀ (A : Around) (outer : List Env) (s : Shared) (H : Hp) (us : List Value) (vs : List V) (Q : VK) (E : XK), Room k A → Env0 P w K mg base A outer s H → GL f F fr ws outer s H → H F.c = some (CodeO F.c F.q) → Vals vs us → sp vs H Q E →
    codeAny (model P w) A (.call (.ref f) ⟨us, []⟩) (CR (L2.CX P w) outer P w H s Q E) s
theorem LOk.mono (o : LOk P w K mg base j f F fr ws sp) (h : j ≤ k) : LOk P w K mg base k f F fr ws sp := ⟨fun A outer s H us vs Q E hr => o.run A outer s H us vs Q E (hr.mono h)⟩
structure CalG (P : Program) (w : World) (K : PySem.W.Frag) (mg : Str → Option Value) (base : Heap) (k : Nat) (x : Str) (ps : List Str) (g : List Env → Shared → Hp → Prop) (sp : Sp) : Prop where
  ex : ∃ (fa : Addr) (fd : FuncData), (∀ (A : Around) (outer : List Env) (s : Shared) (H : Hp) (args : Args) (us : List Value) (vs : List V) (Q : VK) (E : XK), Room k A → Env0 P w K mg base A outer s H → g outer s H → BindsTo s fd args (ps.zip us) → Vals vs us → sp vs H Q E →
      codeAny (model P w) A (.call (.ref fa) args) (CR (L2.CX P w) outer P w H s Q E) s) ∧ (∀ vs H Q E, sp vs H Q E → vs.length = ps.length) ∧ mg x = some (.ref fa) ∧ PySem.W.keepIn K (.ref fa) = true ∧ Binds K fd ps []
variable {g : List Env → Shared → Hp → Prop} {x : Str} {st : Stmt}
theorem CalG.mono (C : CalG P w K mg base j x ps g sp) (h : j ≤ k) : CalG P w K mg base k x ps g sp := by
  obtain ⟨fa, fd, run, r⟩ := C.ex
  exact ⟨fa, fd, fun A outer s H args us vs Q E hr => run A outer s H args us vs Q E (hr.mono h), r⟩
end
structure LF.Is (F : LF) (q : Str) (l : Expr) : Prop where
  q : F.q = q
  l : F.l = l
structure CalD (P : Program) (w : World) (K : PySem.W.Frag) (mg : Str → Option Value) (base : Heap) (k : Nat) (x : Str) (ps : List Str) (dvs : List V) (sp : Sp) : Prop where
  ex : ∃ f fd, FnOk P w K mg base (L2.CX P w) k f fd ps sp ∧ mg x = some (.ref f) ∧ PySem.W.keepIn K (.ref f) = true ∧ Binds K fd ps [] ∧ ∃ ds, Vals dvs ds ∧ Binds K fd ps ds
structure DefAtD (K : PySem.W.Frag) (mg : Str → Option Value) (x : Str) (st : Stmt) (ps : List Str) (dvs : List V) : Prop where
  ex : ∃ f fd, FunD K x x (defArgs st) (defBody st) (defScope st) dvs [] f fd ∧ mg x = some (.ref f) ∧ Binds K fd ps [] ∧ ∃ ds, Vals dvs ds ∧ Binds K fd ps ds
section
variable {P : Program} {w : World} {K : PySem.W.Frag} {mg : Str → Option Value} {base : Heap} {k j : Nat} {x : Str} {ps N : List Str} {dvs : List V} {sp : Sp} {st : Stmt}
theorem CalD.cal (C : CalD P w K mg base k x ps dvs sp) : Cal P w K mg base k x ps sp := by
  obtain ⟨f, fd, F, hm, hk, hb, _⟩ := C.ex
  exact ⟨f, fd, F, hm, hk, hb⟩
theorem CalD.mono (C : CalD P w K mg base j x ps dvs sp) (h : j ≤ k) : CalD P w K mg base k x ps dvs sp := by
  obtain ⟨f, fd, F, r⟩ := C.ex
  exact ⟨f, fd, F.mono h, r⟩
theorem DefAtD.cal (D : DefAtD K mg x st ps dvs) (S : FnScope N ps (defScope st)) (len : ∀ vs H Q E, sp vs H Q E → vs.length = ps.length) (t : XK → TS)
    (der : ∀ (f : Addr) (cdv : Value) (A : Around) (outer : List Env) (s : Shared) (H : Hp) (E : XK), Room k (A.deeper (envOfC x (defScope st) s.heap.objs.size f cdv)) → PSs (cxOf (L2.CX P w) P w K mg base N x (defScope st) f cdv A outer s H E) (defBody st) (t E))
    (pure : ∀ vs H Q E, sp vs H Q E → t E { nx := fun _ H' => Q .non H', rt := Q } (start N vs) H) : CalD P w K mg base (k + 1) x ps dvs sp := by
  obtain ⟨f, fd, F, hm, hb, hd⟩ := D.ex
  exact ⟨f, fd, F.ok S len fun cdv A outer s H vs Q E hr h => ⟨t E, der f cdv A outer s H E hr, pure vs H Q E h⟩, hm, F.kp, hb, hd⟩
theorem DefAtD.none (D : DefAtD K mg x st ps dvs) (no : ∀ vs H Q E, ¬ sp vs H Q E) : CalD P w K mg base k x ps dvs sp := by
  obtain ⟨f, fd, F, hm, hb, hd⟩ := D.ex
  exact ⟨f, fd, ⟨fun vs H Q E h => absurd h (no vs H Q E), fun A outer s H args us vs Q E _ _ _ _ h => absurd h (no vs H Q E)⟩, hm, F.kp, hb, hd⟩
end
end RB
namespace RB
open PySem PySem.Spec PyProof.Rows L2
def t_check_stretch (K : PySem.W.Frag) (C_OutOfRow : Addr) (E : XK) : TS :=
  (tIfS (tNot (tTest (tChain3 nLe nLe nLe (tC (.int 0)) (tVar 1) (tVar 2) (tFld K (tVar 0) "many")))) (tRaise E C_OutOfRow) tNext)
def t_Tree_init (K : PySem.W.Frag) (E : XK) : TS :=
  (tSeq (sFld K (tVar 0) (tVar 1) "many")
    (tSeq (sFld K (tVar 0) (tVar 2) "total")
    (tSeq (sFld K (tVar 0) (tVar 3) "least")
    (tSeq (sFld K (tVar 0) (tVar 4) "more")
    (tSeq (sFld K (tVar 0) (tVar 5) "left")
    (sFld K (tVar 0) (tVar 6) "right"))))))
def t_even_tree (C_Tree : Addr) (s_Tree : Sp) (E : XK) : TS :=
  (tRet (tMake C_Tree s_Tree [] E (tCons (tVar 0) (tCons (tOp nMul (tVar 0) (tVar 1)) (tCons (tVar 1) (tCons (tC (.int 0)) (tCons (tC .non) (tCons (tC .non) tNil))))))))
def t_even (C_NoRow : Addr) (s_even_tree : Sp) (E : XK) : TS :=
  (tSeq (tIfS (tOr (tTest (tOp nLt (tVar 0) (tC (.int 0)))) (tTest (tOp nGt (tVar 0) (tC (.int 1000000000000))))) (tRaise E C_NoRow) tNext)
    (tRet (tCall s_even_tree [] E (tCons (tVar 0) (tCons (tVar 1) tNil)))))
def t_l_whole (K : PySem.W.Frag) (E : XK) : TS :=
  (tRet (tAndV (tCB (rIsi K) (tCons (tVar 0) (tCons (tC (.ty "int")) tNil))) (tNotV (tCB (rIsi K) (tCons (tVar 0) (tCons (tC (.ty "bool")) tNil))))))
def t_l_cell_at (K : PySem.W.Frag) (E : XK) : TS :=
  (tSeq (tIfS (tTest (tOp nLt (tVar 1) (tCB (nLen K) (tCons (tVar 0) tNil)))) (tRet (tOp (rIxL K) (tVar 0) (tVar 1))) tNext)
    (tRet (tC (.int 0))))
def t_l_number_by  (E : XK) : TS :=
  (tSeq (tIfS (tTest (tOp rEq (tOp nMod (tVar 0) (tC (.int 16))) (tC (.int 5)))) (tRet (tOp nMulW (tOp nMulW (tOp nMul (tOp nSub (tOp nMod (tOp nDiv (tVar 0) (tC (.int 16))) (tC (.int 5))) (tC (.int 2))) (tOp nPow (tC (.int 10)) (tC (.int 64)))) (tOp nPow (tC (.int 10)) (tC (.int 64)))) (tOp nPow (tC (.int 10)) (tC (.int 64))))) tNext)
    (tSeq (tIfS (tTest (tOp rEq (tOp nMod (tVar 0) (tC (.int 4))) (tC (.int 1)))) (tRet (tOp nSub (tOp nMod (tOp nDiv (tVar 0) (tC (.int 4))) (tOp nAdd (tOp nMul (tC (.int 2)) (tOp nPow (tC (.int 10)) (tC (.int 60)))) (tC (.int 1)))) (tOp nPow (tC (.int 10)) (tC (.int 60))))) tNext)
    (tSeq (tIfS (tTest (tOp rEq (tOp nMod (tVar 0) (tC (.int 4))) (tC (.int 2)))) (tRet (tOp nSub (tOp nMod (tOp nDiv (tVar 0) (tC (.int 4))) (tC (.int 3))) (tC (.int 1)))) tNext)
    (tRet (tOp nSub (tOp nMod (tOp nDiv (tVar 0) (tC (.int 4))) (tC (.int 41))) (tC (.int 20)))))))
def t_joined (K : PySem.W.Frag) (C_Tree : Addr) (s_Tree : Sp) (E : XK) : TS :=
  (tSeq (tAsg (tOp nAdd (tFld K (tVar 0) "many") (tFld K (tVar 1) "many")) (gName 3))
    (tSeq (tAsg (tOp nAdd (tOp nAdd (tFld K (tVar 0) "total") (tFld K (tVar 1) "total")) (tOp nMul (tVar 3) (tVar 2))) (gName 4))
    (tRet (tMake C_Tree s_Tree [] E (tCons (tVar 3) (tCons (tVar 4) (tCons (tOp nAdd (tCB nMin (tCons (tFld K (tVar 0) "least") (tCons (tFld K (tVar 1) "least") tNil))) (tVar 2)) (tCons (tVar 2) (tCons (tVar 0) (tCons (tVar 1) tNil))))))))))
def t_tree_of (K : PySem.W.Frag) (s_even_tree : Sp) (s_tree_of : Sp) (s_joined : Sp) (E : XK) : TS :=
  (tSeq (tIfS (tNot (nTru K (tVar 0))) (tRet (tCall s_even_tree [] E (tCons (tC (.int 0)) (tCons (tC (.int 0)) tNil)))) tNext)
    (tSeq (tIfS (tTest (tOp rEq (tCB (nLen K) (tCons (tVar 0) tNil)) (tC (.int 1)))) (tRet (tCall s_even_tree [] E (tCons (tC (.int 1)) (tCons (tOp (rIxL K) (tVar 0) (tC (.int 0))) tNil)))) tNext)
    (tSeq (tAsg (tOp nDiv (tCB (nLen K) (tCons (tVar 0) tNil)) (tC (.int 2))) (gName 1))
    (tRet (tCall s_joined [] E (tCons (tCall s_tree_of [] E (tCons (tSl (rSlL K) (tVar 0) tNoPart (tPart (tVar 1))) tNil)) (tCons (tCall s_tree_of [] E (tCons (tSl (rSlL K) (tVar 0) (tPart (tVar 1)) tNoPart) tNil)) (tCons (tC (.int 0)) tNil))))))))
def t_made (K : PySem.W.Frag) (C_NoRow : Addr) (s_tree_of : Sp) (E : XK) : TS :=
  (tSeq (tIfS (tTest (tOp nGt (tCB (nLen K) (tCons (tVar 0) tNil)) (tC (.int 1000)))) (tRaise E C_NoRow) tNext)
    (tRet (tCall s_tree_of [] E (tCons (tVar 0) tNil))))
def t_l_row_by (s_l_number_by : Sp) (E : XK) : TS :=
  (tSeq (tIfS (tTest (tOp rEq (tOp nMod (tVar 0) (tC (.int 3))) (tC (.int 1)))) (tRet (tLc (iRng1 (tCons (tVar 2) tNil)) (gName 3) tYes (tCall s_l_number_by [] E0 (tCons (tOp nAdd (tVar 1) (tOp nMul (tC (.int 4)) (tOp nDiv (tVar 3) (tOp nAdd (tC (.int 1)) (tOp nMod (tOp nDiv (tVar 0) (tC (.int 3))) (tC (.int 9))))))) tNil)) [3])) tNext)
    (tRet (tLc (iRng1 (tCons (tVar 2) tNil)) (gName 3) tYes (tCall s_l_number_by [] E0 (tCons (tOp nAdd (tOp nAdd (tOp nDiv (tVar 0) (tC (.int 3))) (tOp nMul (tOp nMul (tVar 1) (tVar 3)) (tVar 3))) (tOp nMul (tC (.int 13)) (tVar 3))) tNil)) [3])))
def t_total_in (K : PySem.W.Frag) (s_total_in : Sp) (E : XK) : TS :=
  (tSeq (tAsg (tCB nMax (tCons (tVar 1) (tCons (tC (.int 0)) tNil))) (gName 1))
    (tSeq (tAsg (tCB nMin (tCons (tVar 2) (tCons (tFld K (tVar 0) "many") tNil))) (gName 2))
    (tSeq (tIfS (tTest (tOp nGe (tVar 1) (tVar 2))) (tRet (tC (.int 0))) tNext)
    (tSeq (tIfS (tTest (tOp rEq (tOp nSub (tVar 2) (tVar 1)) (tFld K (tVar 0) "many"))) (tRet (tFld K (tVar 0) "total")) tNext)
    (tSeq (tIfS (tTest (tOp nIs (tFld K (tVar 0) "left") (tC .non))) (tRet (tOp nMul (tOp nSub (tVar 2) (tVar 1)) (tFld K (tVar 0) "least"))) tNext)
    (tSeq (tAsg (tFld K (tFld K (tVar 0) "left") "many") (gName 3))
    (tSeq (tAsg (tCall s_total_in [] E (tCons (tFld K (tVar 0) "left") (tCons (tVar 1) (tCons (tVar 2) tNil)))) (gName 4))
    (tSeq (tAsg (tCall s_total_in [] E (tCons (tFld K (tVar 0) "right") (tCons (tOp nSub (tVar 1) (tVar 3)) (tCons (tOp nSub (tVar 2) (tVar 3)) tNil)))) (gName 5))
    (tRet (tOp nAdd (tOp nAdd (tVar 4) (tVar 5)) (tOp nMul (tOp nSub (tVar 2) (tVar 1)) (tFld K (tVar 0) "more"))))))))))))
def t_total (s_check_stretch : Sp) (s_total_in : Sp) (E : XK) : TS :=
  (tSeq (tDrop (tCall s_check_stretch [] E (tCons (tVar 0) (tCons (tVar 1) (tCons (tVar 2) tNil)))))
    (tRet (tCall s_total_in [] E (tCons (tVar 0) (tCons (tVar 1) (tCons (tVar 2) tNil))))))
def t_law_k03_16 (K : PySem.W.Frag) (s_l_cell_at : Sp) (s_l_row_by : Sp) (s_made : Sp) (s_total : Sp) (s_l_whole : Sp) (s_l_number_by : Sp) (s_even : Sp) (E : XK) : TS :=
  (tRet (tAndV (tCall s_l_whole [] E (tCons (tVar 7) tNil)) (tOp rEq (tVar 7) (tOp nMul (tVar 6) (tOp nSub (tVar 10) (tVar 9))))))
def t_law_k03_15 (K : PySem.W.Frag) (s_l_cell_at : Sp) (s_l_row_by : Sp) (s_made : Sp) (s_total : Sp) (s_l_whole : Sp) (s_l_number_by : Sp) (s_even : Sp) (E : XK) : TS :=
  (tSeq (tAsg (tCall s_total [] E (tCons (tCall s_even [] E (tCons (tVar 8) (tCons (tVar 6) tNil))) (tCons (tVar 9) (tCons (tVar 10) tNil)))) (gName 7))
    (t_law_k03_16 K s_l_cell_at s_l_row_by s_made s_total s_l_whole s_l_number_by s_even E))
def t_law_k03_14 (K : PySem.W.Frag) (s_l_cell_at : Sp) (s_l_row_by : Sp) (s_made : Sp) (s_total : Sp) (s_l_whole : Sp) (s_l_number_by : Sp) (s_even : Sp) (E : XK) : TS :=
  (tSeq (tAsg (tCall s_l_number_by [] E (tCons (tCall s_l_cell_at [] E (tCons (tVar 0) (tCons (tC (.int 8)) tNil))) tNil)) (gName 6))
    (t_law_k03_15 K s_l_cell_at s_l_row_by s_made s_total s_l_whole s_l_number_by s_even E))
def t_law_k03_13 (K : PySem.W.Frag) (s_l_cell_at : Sp) (s_l_row_by : Sp) (s_made : Sp) (s_total : Sp) (s_l_whole : Sp) (s_l_number_by : Sp) (s_even : Sp) (E : XK) : TS :=
  (tSeq (tIfS (tTest (tOp rEq (tOp nMod (tCall s_l_cell_at [] E (tCons (tVar 0) (tCons (tC (.int 7)) tNil))) (tC (.int 3))) (tC (.int 1)))) (tAsg (tVar 8) (gName 10)) tNext)
    (t_law_k03_14 K s_l_cell_at s_l_row_by s_made s_total s_l_whole s_l_number_by s_even E))
def t_law_k03_12 (K : PySem.W.Frag) (s_l_cell_at : Sp) (s_l_row_by : Sp) (s_made : Sp) (s_total : Sp) (s_l_whole : Sp) (s_l_number_by : Sp) (s_even : Sp) (E : XK) : TS :=
  (tSeq (tAsg (tOp nAdd (tVar 9) (tOp nMod (tOp nDiv (tCall s_l_cell_at [] E (tCons (tVar 0) (tCons (tC (.int 7)) tNil))) (tC (.int 3))) (tOp nAdd (tOp nSub (tVar 8) (tVar 9)) (tC (.int 1))))) (gName 10))
    (t_law_k03_13 K s_l_cell_at s_l_row_by s_made s_total s_l_whole s_l_number_by s_even E))
def t_law_k03_11 (K : PySem.W.Frag) (s_l_cell_at : Sp) (s_l_row_by : Sp) (s_made : Sp) (s_total : Sp) (s_l_whole : Sp) (s_l_number_by : Sp) (s_even : Sp) (E : XK) : TS :=
  (tSeq (tIfS (tTest (tOp rEq (tOp nMod (tCall s_l_cell_at [] E (tCons (tVar 0) (tCons (tC (.int 6)) tNil))) (tC (.int 3))) (tC (.int 1)))) (tAsg (tC (.int 0)) (gName 9)) tNext)
    (t_law_k03_12 K s_l_cell_at s_l_row_by s_made s_total s_l_whole s_l_number_by s_even E))
def t_law_k03_10 (K : PySem.W.Frag) (s_l_cell_at : Sp) (s_l_row_by : Sp) (s_made : Sp) (s_total : Sp) (s_l_whole : Sp) (s_l_number_by : Sp) (s_even : Sp) (E : XK) : TS :=
  (tSeq (tAsg (tOp nMod (tOp nDiv (tCall s_l_cell_at [] E (tCons (tVar 0) (tCons (tC (.int 6)) tNil))) (tC (.int 3))) (tOp nAdd (tVar 8) (tC (.int 1)))) (gName 9))
    (t_law_k03_11 K s_l_cell_at s_l_row_by s_made s_total s_l_whole s_l_number_by s_even E))
def t_law_k03_9 (K : PySem.W.Frag) (s_l_cell_at : Sp) (s_l_row_by : Sp) (s_made : Sp) (s_total : Sp) (s_l_whole : Sp) (s_l_number_by : Sp) (s_even : Sp) (E : XK) : TS :=
  (tSeq (tAsg (tOp nMod (tCall s_l_cell_at [] E (tCons (tVar 0) (tCons (tC (.int 5)) tNil))) (tOp nAdd (tOp nPow (tC (.int 10)) (tC (.int 12))) (tC (.int 1)))) (gName 8))
    (t_law_k03_10 K s_l_cell_at s_l_row_by s_made s_total s_l_whole s_l_number_by s_even E))
def t_law_k03_8 (K : PySem.W.Frag) (s_l_cell_at : Sp) (s_l_row_by : Sp) (s_made : Sp) (s_total : Sp) (s_l_whole : Sp) (s_l_number_by : Sp) (s_even : Sp) (E : XK) : TS :=
  (tSeq (tIfS (tOr (tNot (tB (tCall s_l_whole [] E (tCons (tVar 7) tNil)))) (tTest (tOp rNe (tVar 7) (tVar 5)))) (tRet (tC (.bl false))) tNext)
    (t_law_k03_9 K s_l_cell_at s_l_row_by s_made s_total s_l_whole s_l_number_by s_even E))
def t_law_k03_7 (K : PySem.W.Frag) (s_l_cell_at : Sp) (s_l_row_by : Sp) (s_made : Sp) (s_total : Sp) (s_l_whole : Sp) (s_l_number_by : Sp) (s_even : Sp) (E : XK) : TS :=
  (tSeq (tAsg (tCall s_total [] E (tCons (tCall s_made [] E (tCons (tCB (nList K) (tCons (tVar 2) tNil)) tNil)) (tCons (tVar 3) (tCons (tVar 4) tNil)))) (gName 7))
    (t_law_k03_8 K s_l_cell_at s_l_row_by s_made s_total s_l_whole s_l_number_by s_even E))
def t_law_k03_6 (K : PySem.W.Frag) (s_l_cell_at : Sp) (s_l_row_by : Sp) (s_made : Sp) (s_total : Sp) (s_l_whole : Sp) (s_l_number_by : Sp) (s_even : Sp) (E : XK) : TS :=
  (tSeq (tFor (iList K (tSl (rSlL K) (tVar 2) (tPart (tVar 3)) (tPart (tVar 4)))) (gName 6)
    (tAsg (tOp nAdd (tVar 5) (tVar 6)) (gName 5)))
    (t_law_k03_7 K s_l_cell_at s_l_row_by s_made s_total s_l_whole s_l_number_by s_even E))
def t_law_k03_5 (K : PySem.W.Frag) (s_l_cell_at : Sp) (s_l_row_by : Sp) (s_made : Sp) (s_total : Sp) (s_l_whole : Sp) (s_l_number_by : Sp) (s_even : Sp) (E : XK) : TS :=
  (tSeq (tAsg (tC (.int 0)) (gName 5))
    (t_law_k03_6 K s_l_cell_at s_l_row_by s_made s_total s_l_whole s_l_number_by s_even E))
def t_law_k03_4 (K : PySem.W.Frag) (s_l_cell_at : Sp) (s_l_row_by : Sp) (s_made : Sp) (s_total : Sp) (s_l_whole : Sp) (s_l_number_by : Sp) (s_even : Sp) (E : XK) : TS :=
  (tSeq (tAsg (tOp nAdd (tVar 3) (tOp nMod (tCall s_l_cell_at [] E (tCons (tVar 0) (tCons (tC (.int 4)) tNil))) (tOp nAdd (tOp nSub (tVar 1) (tVar 3)) (tC (.int 1))))) (gName 4))
    (t_law_k03_5 K s_l_cell_at s_l_row_by s_made s_total s_l_whole s_l_number_by s_even E))
def t_law_k03_3 (K : PySem.W.Frag) (s_l_cell_at : Sp) (s_l_row_by : Sp) (s_made : Sp) (s_total : Sp) (s_l_whole : Sp) (s_l_number_by : Sp) (s_even : Sp) (E : XK) : TS :=
  (tSeq (tAsg (tOp nMod (tCall s_l_cell_at [] E (tCons (tVar 0) (tCons (tC (.int 3)) tNil))) (tOp nAdd (tVar 1) (tC (.int 1)))) (gName 3))
    (t_law_k03_4 K s_l_cell_at s_l_row_by s_made s_total s_l_whole s_l_number_by s_even E))
def t_law_k03_2 (K : PySem.W.Frag) (s_l_cell_at : Sp) (s_l_row_by : Sp) (s_made : Sp) (s_total : Sp) (s_l_whole : Sp) (s_l_number_by : Sp) (s_even : Sp) (E : XK) : TS :=
  (tSeq (tAsg (tCall s_l_row_by [] E (tCons (tCall s_l_cell_at [] E (tCons (tVar 0) (tCons (tC (.int 1)) tNil))) (tCons (tCall s_l_cell_at [] E (tCons (tVar 0) (tCons (tC (.int 2)) tNil))) (tCons (tVar 1) tNil)))) (gName 2))
    (t_law_k03_3 K s_l_cell_at s_l_row_by s_made s_total s_l_whole s_l_number_by s_even E))
def t_law_k03_1 (K : PySem.W.Frag) (s_l_cell_at : Sp) (s_l_row_by : Sp) (s_made : Sp) (s_total : Sp) (s_l_whole : Sp) (s_l_number_by : Sp) (s_even : Sp) (E : XK) : TS :=
  (tSeq (tIfS (tTest (tOp rEq (tOp nMod (tOp nDiv (tCall s_l_cell_at [] E (tCons (tVar 0) (tCons (tC (.int 0)) tNil))) (tC (.int 10))) (tC (.int 4))) (tC (.int 1)))) (tAsg (tOp nMod (tOp nDiv (tCall s_l_cell_at [] E (tCons (tVar 0) (tCons (tC (.int 0)) tNil))) (tC (.int 40))) (tC (.int 1001))) (gName 1)) tNext)
    (t_law_k03_2 K s_l_cell_at s_l_row_by s_made s_total s_l_whole s_l_number_by s_even E))
def t_law_k03 (K : PySem.W.Frag) (s_l_cell_at : Sp) (s_l_row_by : Sp) (s_made : Sp) (s_total : Sp) (s_l_whole : Sp) (s_l_number_by : Sp) (s_even : Sp) (E : XK) : TS :=
  (tSeq (tAsg (tOp nMod (tCall s_l_cell_at [] E (tCons (tVar 0) (tCons (tC (.int 0)) tNil))) (tC (.int 10))) (gName 1))
    (t_law_k03_1 K s_l_cell_at s_l_row_by s_made s_total s_l_whole s_l_number_by s_even E))
end RB
namespace RB
open PySem PySem.Spec PyProof.Rows L2
def seg (f : Int → Int) (a : Int) (n : Nat) : List Int := (List.range n).map fun i => f (a + (i : Nat))
theorem seg_length (f : Int → Int) (a : Int) (n : Nat) : (seg f a n).length = n := by simp [seg]
theorem seg_get {f : Int → Int} {a : Int} {n i : Nat} (h : i < n) : (seg f a n)[i]? = some (f (a + (i : Nat))) := by
  simp [seg, List.getElem?_map, List.getElem?_range h]
theorem seg_append (f : Int → Int) (a : Int) (n k : Nat) : seg f a (n + k) = seg f a n ++ seg f (a + (n : Nat)) k := by
  apply List.ext_getElem?
  intro i
  by_cases h : i < n
  · rw [List.getElem?_append_left (by rw [seg_length]; exact h), seg_get h, seg_get (by omega)]
  · rw [List.getElem?_append_right (by rw [seg_length]; omega), seg_length]
    by_cases h2 : i < n + k
    · rw [seg_get h2, seg_get (by omega)]
      congr 2
      omega
    · rw [List.getElem?_eq_none (by rw [seg_length]; omega), List.getElem?_eq_none (by rw [seg_length]; omega)]
theorem seg_congr {f g : Int → Int} {a b : Int} {n : Nat} (h : ∀ i : Nat, i < n → f (a + i) = g (b + i)) : seg f a n = seg g b n := by
  unfold seg
  apply List.map_congr_left
  intro i hi
  exact h i (List.mem_range.mp hi)
theorem seg_map (g : Int → Int) (f : Int → Int) (a : Int) (n : Nat) : (seg f a n).map g = seg (fun i => g (f i)) a n := by
  simp [seg, List.map_map, Function.comp_def]
theorem seg_zero (f : Int → Int) (a : Int) : seg f a 0 = [] := rfl
theorem seg_const (c a : Int) (n : Nat) : seg (fun _ => c) a n = List.replicate n c := by
  simp [seg, List.map_const']
inductive T where
  | leaf (m t l mo : Int)
  | node (m t l mo : Int) (a b : T)
namespace T
def many : T → Int
  | leaf m _ _ _ => m
  | node m _ _ _ _ _ => m
def tot : T → Int
  | leaf _ t _ _ => t
  | node _ t _ _ _ _ => t
def low : T → Int
  | leaf _ _ l _ => l
  | node _ _ l _ _ _ => l
def more : T → Int
  | leaf _ _ _ o => o
  | node _ _ _ o _ _ => o
def ht : T → Nat
  | leaf _ _ _ _ => 0
  | node _ _ _ _ a b => max a.ht b.ht + 1
def den : T → Int → Int
  | leaf _ _ l _, _ => l
  | node _ _ _ o a b, i => (if i < a.many then a.den i else b.den (i - a.many)) + o
def Wf : T → Prop
  | leaf m t l o => (0 ≤ m ∧ o = 0) ∧ t = m * l
  | node m t l o a b => a.Wf ∧ b.Wf ∧ 0 < a.many ∧ 0 < b.many ∧ m = a.many + b.many ∧ t = a.tot + b.tot + m * o ∧ l = min a.low b.low + o ∧ a.many = m / 2
theorem Wf.nn : ∀ {t : T}, t.Wf → 0 ≤ t.many
  | leaf _ _ _ _, h => h.1.1
  | node _ _ _ _ _ _, h => by
    obtain ⟨_, _, h1, h2, h3, _⟩ := h
    show (0 : Int) ≤ _
    dsimp only [many]
    omega
end T
def cut (t : T) (lo hi : Int) : List Int := seg t.den (max lo 0) (min hi t.many - max lo 0).toNat
theorem cut_none {t : T} {lo hi : Int} (h : min hi t.many ≤ max lo 0) : cut t lo hi = [] := by
  unfold cut
  rw [show (min hi t.many - max lo 0).toNat = 0 by omega]
  rfl
theorem cut_leaf {m t l o lo hi : Int} : cut (.leaf m t l o) lo hi = List.replicate (min hi m - max lo 0).toNat l := by
  unfold cut
  exact seg_const l _ _
theorem cut_node {m t l o lo hi : Int} {a b : T} (ha : 0 ≤ a.many) (hb : 0 ≤ b.many) (hm : m = a.many + b.many) :
    cut (.node m t l o a b) lo hi = (cut a (max lo 0) (min hi m) ++ cut b (max lo 0 - a.many) (min hi m - a.many)).map (· + o) := by
  unfold cut
  rw [List.map_append, seg_map, seg_map]
  show seg _ (max lo 0) (min hi m - max lo 0).toNat = _
  generalize hL : max lo 0 = L
  generalize hH : min hi m = Hh
  have hL0 : 0 ≤ L := by omega
  have hHm : Hh ≤ m := by omega
  rw [show max L 0 = L by omega]
  have e1 : (Hh - L).toNat = (min Hh a.many - L).toNat + (min (Hh - a.many) b.many - max (L - a.many) 0).toNat := by omega
  rw [e1, seg_append]
  congr 1
  · apply seg_congr
    intro i hi
    show (if L + (i : Int) < a.many then _ else _) + o = _
    rw [if_pos (by omega)]
  · by_cases z : (min (Hh - a.many) b.many - max (L - a.many) 0).toNat = 0
    · rw [z, seg_zero, seg_zero]
    · apply seg_congr
      intro i hi
      show (if L + _ + (i : Int) < a.many then _ else _) + o = _
      rw [if_neg (by omega)]
      congr 2
      omega
theorem cut_len (t : T) (lo hi : Int) : (cut t lo hi).length = (min hi t.many - max lo 0).toNat := seg_length _ _ _
def flds (m t l o L R : V) : List (Str × V) := [("many", m), ("total", t), ("least", l), ("more", o), ("left", L), ("right", R)]
def TreeAt (C : Addr) (H : Hp) : Addr → T → Prop
  | p, .leaf m t l o => ∃ dx, H p = some (.ins C dx (flds (.int m) (.int t) (.int l) (.int o) .non .non))
  | p, .node m t l o a b => ∃ dx pa pb, H p = some (.ins C dx (flds (.int m) (.int t) (.int l) (.int o) (.ref pa) (.ref pb))) ∧ TreeAt C H pa a ∧ TreeAt C H pb b
theorem TreeAt.ins {C : Addr} {H H' : Hp} (s : Ins H H') : ∀ {t : T} {p : Addr}, TreeAt C H p t → TreeAt C H' p t
  | .leaf _ _ _ _, _, ⟨dx, h⟩ => ⟨dx, s _ _ _ _ h⟩
  | .node _ _ _ _ _ _, _, ⟨dx, pa, pb, h, ha, hb⟩ => ⟨dx, pa, pb, s _ _ _ _ h, ha.ins s, hb.ins s⟩
theorem TreeAt.same {C : Addr} {H H' : Hp} {t : T} {p : Addr} (h : TreeAt C H p t) (s : Same H H') : TreeAt C H' p t := h.ins (.same s)
structure Tx (K : PySem.W.Frag) (C : Addr) : Prop where
  cl : Cls K C
  many : NoAttr K C "many"
  total : NoAttr K C "total"
  least : NoAttr K C "least"
  more : NoAttr K C "more"
  left : NoAttr K C "left"
  right : NoAttr K C "right"
section
variable {K : PySem.W.Frag} {C dx p : Addr} {H : Hp} {Q : VK} {m t l o L R : V}
theorem lk_many : (flds m t l o L R).lookup ("many" : Str) = some m := rfl
theorem lk_total : (flds m t l o L R).lookup ("total" : Str) = some t := rfl
theorem lk_least : (flds m t l o L R).lookup ("least" : Str) = some l := rfl
theorem lk_more : (flds m t l o L R).lookup ("more" : Str) = some o := rfl
theorem lk_left : (flds m t l o L R).lookup ("left" : Str) = some L := rfl
theorem lk_right : (flds m t l o L R).lookup ("right" : Str) = some R := rfl
theorem f_many (X : Tx K C) (h : H p = some (.ins C dx (flds m t l o L R))) : nFld K "many" (.ref p) H Q = Q m H := nFld_ap h X.cl X.many lk_many
theorem f_total (X : Tx K C) (h : H p = some (.ins C dx (flds m t l o L R))) : nFld K "total" (.ref p) H Q = Q t H := nFld_ap h X.cl X.total lk_total
theorem f_least (X : Tx K C) (h : H p = some (.ins C dx (flds m t l o L R))) : nFld K "least" (.ref p) H Q = Q l H := nFld_ap h X.cl X.least lk_least
theorem f_more (X : Tx K C) (h : H p = some (.ins C dx (flds m t l o L R))) : nFld K "more" (.ref p) H Q = Q o H := nFld_ap h X.cl X.more lk_more
theorem f_left (X : Tx K C) (h : H p = some (.ins C dx (flds m t l o L R))) : nFld K "left" (.ref p) H Q = Q L H := nFld_ap h X.cl X.left lk_left
theorem f_right (X : Tx K C) (h : H p = some (.ins C dx (flds m t l o L R))) : nFld K "right" (.ref p) H Q = Q R H := nFld_ap h X.cl X.right lk_right
theorem TreeAt.root {t : T} (h : TreeAt C H p t) : ∃ dx L R, H p = some (.ins C dx (flds (.int t.many) (.int t.tot) (.int t.low) (.int t.more) L R)) := by
  cases t with
  | leaf m t l o => obtain ⟨dx, h⟩ := h; exact ⟨dx, _, _, h⟩
  | node m t l o a b => obtain ⟨dx, pa, pb, h, _⟩ := h; exact ⟨dx, _, _, h⟩
end
def RowIs (t : T) (xs : List Int) : Prop := t.many = (xs.length : Int) ∧ ∀ (i : Nat) (z : Int), xs[i]? = some z → t.den (i : Int) = z
theorem seg_row {t : T} {xs : List Int} (h : RowIs t xs) {lo n : Nat} (hn : lo + n ≤ xs.length) : seg t.den (lo : Int) n = (xs.drop lo).take n := by
  apply List.ext_getElem?
  intro i
  by_cases hi : i < n
  · rw [seg_get hi, List.getElem?_take_of_lt hi, List.getElem?_drop]
    have e : xs[lo + i]? = some xs[lo + i] := List.getElem?_eq_getElem (by omega)
    rw [e]
    congr 1
    have := h.2 (lo + i) _ e
    rw [← this]
    congr 1
  · rw [List.getElem?_eq_none (by rw [seg_length]; omega), List.getElem?_eq_none (by rw [List.length_take]; omega)]
theorem seg_rowI {t : T} {xs : List Int} (h : RowIs t xs) {lo hi : Int} (h0 : 0 ≤ lo) (h1 : lo ≤ hi) (h2 : hi ≤ (xs.length : Int)) : seg t.den lo (hi - lo).toNat = (xs.drop lo.toNat).take (hi - lo).toNat := by
  have e := seg_row h (lo := lo.toNat) (n := (hi - lo).toNat) (by omega)
  rw [show ((lo.toNat : Nat) : Int) = lo by omega] at e
  exact e
theorem cutV_ints {xs : List Int} {lo hi : Int} (h0 : 0 ≤ lo) (h1 : lo ≤ hi) (h2 : hi ≤ (xs.length : Int)) : cutV (xs.map V.int) (some lo) (some hi) = ((xs.drop lo.toNat).take (hi - lo).toNat).map V.int := by
  unfold cutV
  have e1 : HT.sIx (xs.map V.int).length 0 (some lo) = lo.toNat := by
    have := HT.sIx_nat (xs.map V.int).length 0 lo.toNat
    rw [show ((lo.toNat : Nat) : Int) = lo by omega] at this
    rw [this, List.length_map]
    omega
  have e2 : HT.sIx (xs.map V.int).length (xs.map V.int).length (some hi) = hi.toNat := by
    have := HT.sIx_nat (xs.map V.int).length (xs.map V.int).length hi.toNat
    rw [show ((hi.toNat : Nat) : Int) = hi by omega] at this
    rw [this, List.length_map]
    omega
  rw [e1, e2, List.map_take, List.map_drop, show hi.toNat - lo.toNat = (hi - lo).toNat by omega]
theorem cutV_head {xs : List Int} {k : Nat} (h : k ≤ xs.length) : cutV (xs.map V.int) none (some (k : Int)) = (xs.take k).map V.int := by
  unfold cutV
  rw [HT.sIx_none, HT.sIx_nat, List.length_map, List.drop_zero, List.map_take]
  congr 1
  omega
theorem cutV_tail {xs : List Int} {k : Nat} (h : k ≤ xs.length) : cutV (xs.map V.int) (some (k : Int)) none = (xs.drop k).map V.int := by
  unfold cutV
  rw [HT.sIx_none, HT.sIx_nat, List.length_map, List.map_drop, show min k xs.length = k by omega]
  rw [List.take_of_length_le (by rw [List.length_drop, List.length_map]; omega)]
theorem sum_map_add (o : Int) : ∀ l : List Int, (l.map (· + o)).sum = l.sum + (l.length : Int) * o
  | [] => by simp
  | x :: r => by
    have ih := sum_map_add o r
    rw [List.map_cons, List.sum_cons, List.sum_cons, ih, List.length_cons, Int.natCast_succ, Int.add_mul]
    omega
theorem sum_replicate (o : Int) : ∀ n : Nat, (List.replicate n o).sum = (n : Int) * o
  | 0 => by simp
  | n + 1 => by
    rw [List.replicate_succ, List.sum_cons, sum_replicate o n, Int.natCast_succ, Int.add_mul]
    omega
theorem cut_whole {t : T} {lo hi : Int} (h : min hi t.many - max lo 0 = t.many) (h0 : 0 ≤ t.many) (hn : 0 < t.many) : cut t lo hi = cut t 0 t.many := by
  unfold cut
  rw [show max lo 0 = 0 by omega, show min hi t.many = t.many by omega]
  simp
theorem cut_tot : ∀ {t : T}, t.Wf → (cut t 0 t.many).sum = t.tot
  | .leaf m t l o, h => by
    rw [cut_leaf, sum_replicate]
    obtain ⟨h0, h1⟩ := h
    show (((min m m - max 0 0).toNat : Nat) : Int) * l = t
    rw [h1, show (((min m m - max 0 0).toNat : Nat) : Int) = m by omega]
  | .node m t l o a b, h => by
    obtain ⟨wa, wb, ha, hb, hm, ht, hl⟩ := h
    rw [cut_node (by omega) (by omega) hm]
    show (List.map _ (cut a (max 0 0) (min m m) ++ cut b (max 0 0 - a.many) (min m m - a.many))).sum = t
    have ea : cut a (max 0 0) (min m m) = cut a 0 a.many := cut_whole (by omega) (by omega) ha
    have eb : cut b (max 0 0 - a.many) (min m m - a.many) = cut b 0 b.many := cut_whole (by omega) (by omega) hb
    rw [ea, eb, sum_map_add, List.sum_append, cut_tot wa, cut_tot wb, List.length_append, cut_len, cut_len, ht]
    congr 2
    omega
end RB
namespace RB
open PySem PySem.Spec PyProof.Rows L2
local macro_rules | `(tactic| walk_at "ev") => `(tactic| try simp only [tSeq, tIfS, tTest, tNot, tAnd, tOr, tB, tOp, tUn, tVar, tC, tRet, tAsg, gName, tNext, tCB, tCons, tNil, tDrop, tRaise, tChain, tChain3, tAndV, tOrV, tNotV, tIf, tCall, tFld_ap, tLc_ap, tLcR_ap, tFor_ap, tForR_ap, tForR2_ap, nTry, nTryAs, tCallS, tKnown, tBM, gSub, tSl, tNoPart, tPart, tLst, tTup, wipe,
  List.getElem?_cons_zero, List.getElem?_cons_succ, List.set_cons_zero, List.set_cons_succ, ex_some, ex_bl, ex_int, List.nil_append, List.cons_append, List.append_nil,
  nAdd_ap, nSub_ap, nLt_ap, nLe_ap, nGt_ap, nGe_ap, nMul_ap, nMulW_ap, nDiv_ap, nMod_ap, nPow_ap, nNeg_ap, nMax_ap, nMin_ap, rEq_ap, rNe_ap, nIs_ap, nIsNot_ap, dec_int_non, dec_ref_non, dec_non_non, ref_non, int_non, non_ref, non_int, isi_int_int, isi_int_bool,
  decide_eq_true_eq, Bool.not_eq_true', decide_eq_false_iff_not, decide_true, decide_false, Bool.not_true, Bool.not_false, ite_tt', ite_ff', Bool.false_eq_true, Bool.true_eq_false, not_true_eq_false, not_false_eq_true, if_true, if_false])
section
variable {K : PySem.W.Frag} {C : Addr}
def sp_check_stretch (C CO : Addr) : Sp := fun vs H Q E => ∃ (p : Addr) (t : T) (lo hi : Int), vs = [.ref p, .int lo, .int hi] ∧ TreeAt C H p t ∧
  ((0 ≤ lo ∧ lo ≤ hi ∧ hi ≤ t.many) → Q .non H) ∧ (¬ (0 ≤ lo ∧ lo ≤ hi ∧ hi ≤ t.many) → E (.ref CO) none H)
theorem p_check_stretch (X : Tx K C) {CO : Addr} (vs : List V) (H : Hp) (Q : VK) (E : XK) (h : sp_check_stretch C CO vs H Q E) :
    t_check_stretch K CO E { nx := fun _ H' => Q .non H', rt := Q } (start ["book", "low", "high"] vs) H := by
  obtain ⟨p, t, lo, hi, rfl, hT, q1, q2⟩ := h
  obtain ⟨dx, L, R, hp⟩ := hT.root
  show t_check_stretch K CO E _ [some (.ref p), some (.int lo), some (.int hi)] H
  unfold t_check_stretch
  walk_at "ev"
  simp only [f_many X hp]
  walk_at "ev"
  split
  · split
    · split
      · exact q2 (by omega)
      · exact q1 (by omega)
    · exact q2 (by omega)
  · exact q2 (by omega)
def sp_Tree (C : Addr) : Sp := fun vs H Q _ => ∃ (p dx : Addr) (m t l o L R : V), vs = [.ref p, m, t, l, o, L, R] ∧ H p = some (.ins C dx []) ∧ Q .non (upd H p (.ins C dx (flds m t l o L R)))
theorem n1 : ¬ (("many" : Str) = "total") := by decide +kernel
theorem p_Tree_init (X : Tx K C) (vs : List V) (H : Hp) (Q : VK) (E : XK) (h : sp_Tree C vs H Q E) :
    t_Tree_init K E { nx := fun _ H' => Q .non H', rt := Q } (start ["self", "many", "total", "least", "more", "left", "right"] vs) H := by
  obtain ⟨p, dx, m, t, l, o, L, R, rfl, hp, q⟩ := h
  show t_Tree_init K E _ [some (.ref p), some m, some t, some l, some o, some L, some R] H
  have e : upd (upd (upd (upd (upd (upd H p (.ins C dx (putF "many" m []))) p (.ins C dx (putF "total" t (putF "many" m [])))) p (.ins C dx (putF "least" l (putF "total" t (putF "many" m [])))))
    p (.ins C dx (putF "more" o (putF "least" l (putF "total" t (putF "many" m [])))))) p (.ins C dx (putF "left" L (putF "more" o (putF "least" l (putF "total" t (putF "many" m []))))))) p
    (.ins C dx (putF "right" R (putF "left" L (putF "more" o (putF "least" l (putF "total" t (putF "many" m []))))))) = upd H p (.ins C dx (flds m t l o L R)) := by
    simp only [upd_upd]
    rfl
  refine ⟨_, rfl, _, rfl, p, C, dx, [], rfl, hp, X.cl, X.many, (by show 0 < 1000; decide), ?_⟩
  refine ⟨_, rfl, _, rfl, p, C, dx, _, rfl, upd_same, X.cl, X.total, (by show 1 < 1000; decide), ?_⟩
  refine ⟨_, rfl, _, rfl, p, C, dx, _, rfl, upd_same, X.cl, X.least, (by show 2 < 1000; decide), ?_⟩
  refine ⟨_, rfl, _, rfl, p, C, dx, _, rfl, upd_same, X.cl, X.more, (by show 3 < 1000; decide), ?_⟩
  refine ⟨_, rfl, _, rfl, p, C, dx, _, rfl, upd_same, X.cl, X.left, (by show 4 < 1000; decide), ?_⟩
  refine ⟨_, rfl, _, rfl, p, C, dx, _, rfl, upd_same, X.cl, X.right, (by show 5 < 1000; decide), ?_⟩
  show Q .non _
  rw [e]
  exact q
theorem make_tree {H : Hp} {Q : VK} {E : XK} {m t l o L R : V} {σ : L2.St} {ta : TA} (h : ta σ H = fun q => q [m, t, l, o, L, R] H)
    (q : ∀ x dx, H x = none → Same H (upd (upd H dx (.own x)) x (.ins C dx (flds m t l o L R))) → Q (.ref x) (upd (upd H dx (.own x)) x (.ins C dx (flds m t l o L R)))) : tMake C (sp_Tree C) [] E ta σ H Q := by
  unfold tMake
  rw [h]
  intro x dx nx nd ne
  refine ⟨x, dx, m, t, l, o, L, R, rfl, upd_same, rfl, ?_⟩
  rw [upd_upd]
  refine q x dx nx fun b u e => ?_
  rw [upd_ne (ne_of_none e nx), upd_ne (ne_of_none e nd)]
  exact e
def sp_even_tree (C : Addr) : Sp := fun vs H Q _ => ∃ (m v : Int), vs = [.int m, .int v] ∧ 0 ≤ m ∧ m ≤ 1000000000000 ∧ ∀ (x : Addr) (H' : Hp), Same H H' → H x = none → TreeAt C H' x (.leaf m (m * v) v 0) → Q (.ref x) H'
theorem p_even_tree (vs : List V) (H : Hp) (Q : VK) (E : XK) (h : sp_even_tree C vs H Q E) :
    t_even_tree C (sp_Tree C) E { nx := fun _ H' => Q .non H', rt := Q } (start ["many", "number"] vs) H := by
  obtain ⟨m, v, rfl, h0, h1, q⟩ := h
  show t_even_tree C (sp_Tree C) E _ [some (.int m), some (.int v)] H
  unfold t_even_tree tRet
  refine make_tree (m := .int m) (t := .int (m * v)) (l := .int v) (o := .int 0) (L := .non) (R := .non) ?_ fun x dx nx s => q x _ s nx ⟨dx, upd_same⟩
  funext q
  walk_at "ev"
  exact propext ⟨fun h => h.2, fun h => ⟨.inl ⟨by omega, by omega⟩, h⟩⟩
def sp_even (C CN : Addr) : Sp := fun vs H Q E => ∃ (m v : Int), vs = [.int m, .int v] ∧ ((0 ≤ m ∧ m ≤ 1000000000000) → ∀ (x : Addr) (H' : Hp), Same H H' → H x = none → TreeAt C H' x (.leaf m (m * v) v 0) → Q (.ref x) H') ∧
  (¬ (0 ≤ m ∧ m ≤ 1000000000000) → E (.ref CN) none H)
theorem p_even {CN : Addr} (vs : List V) (H : Hp) (Q : VK) (E : XK) (h : sp_even C CN vs H Q E) :
    t_even CN (sp_even_tree C) E { nx := fun _ H' => Q .non H', rt := Q } (start ["many", "number"] vs) H := by
  obtain ⟨m, v, rfl, q1, q2⟩ := h
  show t_even CN (sp_even_tree C) E _ [some (.int m), some (.int v)] H
  unfold t_even
  walk_at "ev"
  split
  · exact q2 (by omega)
  · split
    · exact q2 (by omega)
    · exact ⟨m, v, rfl, by omega, by omega, q1 (by omega)⟩
end
end RB
namespace RB
open PySem PySem.Spec PyProof.Rows L2
local macro_rules | `(tactic| walk_at "ev") => `(tactic| try simp only [tSeq, tIfS, tTest, tNot, tAnd, tOr, tB, tOp, tUn, tVar, tC, tRet, tAsg, gName, tNext, tCB, tCons, tNil, tDrop, tRaise, tChain, tChain3, tAndV, tOrV, tNotV, tIf, tCall, tFld_ap, tLc_ap, tLcR_ap, tFor_ap, tForR_ap, tForR2_ap, nTry, nTryAs, tCallS, tKnown, tBM, gSub, tSl, tNoPart, tPart, tLst, tTup, wipe,
  List.getElem?_cons_zero, List.getElem?_cons_succ, List.set_cons_zero, List.set_cons_succ, ex_some, ex_bl, ex_int, List.nil_append, List.cons_append, List.append_nil,
  nAdd_ap, nSub_ap, nLt_ap, nLe_ap, nGt_ap, nGe_ap, nMul_ap, nMulW_ap, nDiv_ap, nMod_ap, nPow_ap, nNeg_ap, nMax_ap, nMin_ap, rEq_ap, rNe_ap, nIs_ap, nIsNot_ap, dec_int_non, dec_ref_non, dec_non_non, ref_non, int_non, non_ref, non_int, isi_int_int, isi_int_bool,
  decide_eq_true_eq, Bool.not_eq_true', decide_eq_false_iff_not, decide_true, decide_false, Bool.not_true, Bool.not_false, ite_tt', ite_ff', Bool.false_eq_true, Bool.true_eq_false, not_true_eq_false, not_false_eq_true, if_true, if_false])
section
variable {K : PySem.W.Frag} {C : Addr}
def sp_l_whole : Sp := fun vs H Q _ => ∃ i : Int, vs = [.int i] ∧ Q (.bl true) H
theorem l_whole_ap {i : Int} {H : Hp} {Q : VK} {E : XK} : sp_l_whole [.int i] H Q E = Q (.bl true) H := by
  unfold sp_l_whole
  apply propext
  constructor
  · rintro ⟨j, e, q⟩
    exact q
  · intro q
    exact ⟨i, rfl, q⟩
theorem p_l_whole (vs : List V) (H : Hp) (Q : VK) (E : XK) (h : sp_l_whole vs H Q E) :
    t_l_whole K E { nx := fun _ H' => Q .non H', rt := Q } (start ["_law_found"] vs) H := by
  obtain ⟨i, rfl, q⟩ := h
  show t_l_whole K E _ [some (.int i)] H
  unfold t_l_whole
  walk_at "ev"
  exact q
def cell (ns : List Int) (k : Nat) : Int := ns.getD k 0
def sp_l_cell_at (K : PySem.W.Frag) : Sp := fun vs H Q _ => ∃ (a : Addr) (ns : List Int) (k : Nat), vs = [.ref a, .int (k : Nat)] ∧ SqL K H a (ns.map V.int) ∧ Q (.int (cell ns k)) H
theorem p_l_cell_at (vs : List V) (H : Hp) (Q : VK) (E : XK) (h : sp_l_cell_at K vs H Q E) :
    t_l_cell_at K E { nx := fun _ H' => Q .non H', rt := Q } (start ["_law_script", "_law_k"] vs) H := by
  obtain ⟨a, ns, k, rfl, hS, q⟩ := h
  show t_l_cell_at K E _ [some (.ref a), some (.int k)] H
  unfold t_l_cell_at
  walk_at "ev"
  refine nLen_ap hS ?_
  walk_at "ev"
  rw [List.length_map]
  split
  · rename_i hk
    have hk' : k < ns.length := by omega
    refine ⟨a, _, _, _, rfl, rfl, hS, atI_nat (j := k) (by rw [List.getElem?_map, List.getElem?_eq_getElem hk']; rfl), ?_⟩
    have e : cell ns k = ns[k] := by
      unfold cell
      rw [List.getD_eq_getElem?_getD, List.getElem?_eq_getElem hk']
      rfl
    rw [e] at q
    exact q
  · have e : cell ns k = 0 := by
      unfold cell
      rw [List.getD_eq_getElem?_getD, List.getElem?_eq_none (by omega)]
      rfl
    rw [e] at q
    exact q
def numBy (c : Int) : Int := if c % 16 = 5 then (c / 16 % 5 - 2) * 10 ^ 64 * 10 ^ 64 * 10 ^ 64 else if c % 4 = 1 then c / 4 % (2 * 10 ^ 60 + 1) - 10 ^ 60 else if c % 4 = 2 then c / 4 % 3 - 1 else c / 4 % 41 - 20
def sp_l_number_by : Sp := fun vs H Q _ => ∃ c : Int, vs = [.int c] ∧ Q (.int (numBy c)) H
theorem l_number_by_ap {c : Int} {H : Hp} {Q : VK} {E : XK} : sp_l_number_by [.int c] H Q E = Q (.int (numBy c)) H := by
  unfold sp_l_number_by
  apply propext
  constructor
  · rintro ⟨j, e, q⟩
    cases e
    exact q
  · intro q
    exact ⟨c, rfl, q⟩
theorem p_l_number_by (vs : List V) (H : Hp) (Q : VK) (E : XK) (h : sp_l_number_by vs H Q E) :
    t_l_number_by E { nx := fun _ H' => Q .non H', rt := Q } (start ["_law_cell"] vs) H := by
  obtain ⟨c, rfl, q⟩ := h
  show t_l_number_by E _ [some (.int c)] H
  unfold t_l_number_by
  walk_at "ev"
  have t10 : ∀ k : Nat, ((10 : Int) ^ k).natAbs = 10 ^ k := fun k => by
    rw [Int.natAbs_pow]
    rfl
  have p10 : ∀ j : Int, 0 ≤ j → j ≤ 64 → CPow 10 j := fun j h0 h1 => ⟨h0, by omega, by decide⟩
  have b10 : ∀ k : Nat, k ≤ 64 → ((10 : Int) ^ k).natAbs < 2 ^ (4 * k + 1) := fun k hk => by
    rw [t10]
    exact Nat.lt_of_le_of_lt (Nat.pow_le_pow_left (by decide : 10 ≤ 16) k) (by rw [show (16 : Nat) = 2 ^ 4 by rfl, ← Nat.pow_mul]; exact Nat.pow_lt_pow_right (by decide) (by omega))
  have e64 : Int.toNat 64 = 64 := rfl
  have e60 : Int.toNat 60 = 60 := rfl
  rw [e64, e60]
  have s0 : (c / 16 % 5 - 2).natAbs < 2 ^ 2 := by omega
  have s1 := wide_lt s0 (b10 64 (by decide))
  have s2 := wide_lt s1 (b10 64 (by decide))
  refine ⟨by decide, ?_⟩
  unfold numBy at q
  split
  · rename_i hc
    rw [if_pos hc] at q
    exact ⟨⟨by decide, by decide⟩, by decide, p10 _ (by decide) (by decide), .inl ⟨by omega, by omega⟩, p10 _ (by decide) (by decide),
      wide_mul s1 (b10 64 (by decide)) (by decide) (by decide) (by decide), p10 _ (by decide) (by decide), wide_mul s2 (b10 64 (by decide)) (by decide) (by decide) (by decide), q⟩
  rename_i hc
  rw [if_neg hc] at q
  refine ⟨by decide, ?_⟩
  have d4 : CDiv c 4 := ⟨by decide, by decide⟩
  split
  · rename_i h1
    rw [if_pos h1] at q
    have pp : (0 : Int) < 10 ^ 60 := by
      have := Int.pow_pos (n := 10) (m := 60) (by decide)
      exact this
    exact ⟨d4, p10 _ (by decide) (by decide), .inl ⟨by decide, by decide⟩, by omega, p10 _ (by decide) (by decide), q⟩
  rename_i h1
  rw [if_neg h1] at q
  refine ⟨by decide, ?_⟩
  split
  · rename_i h2
    rw [if_pos h2] at q
    exact ⟨d4, by decide, q⟩
  · rename_i h2
    rw [if_neg h2] at q
    exact ⟨d4, by decide, q⟩
end
end RB
namespace RB
open PySem PySem.Spec PyProof.Rows L2
section
variable {K : PySem.W.Frag} {h : Heap} {mg : Str → Option Value} {x q : Str} {st : Stmt} {ps : List Str} {f C : Addr} {od an : Option Addr} {osl : Array (Option Value)} {oc kV doc pm cdv ct : Value}
theorem DefAt.mk' (X : K.In h) (G : h.Ns mainGlobals mg) (a : PySem.W.nsIn K mainGlobals x = some (some (.ref f))) (l : K.lookup f = some ⟨oc, od, .func (PySem.W.fnOf x x (defArgs st) (defBody st) (defScope st) .none kV doc pm an cdv ct), osl⟩)
    (c : PySem.W.codeIn K cdv x = true) (k : PySem.W.keepIn K (.ref f) = true)
    (b : ∀ (kV doc pm : Value) (an : Option Addr) (cdv ct : Value) (us : List Value), us.length = ps.length → bindArgs (PySem.W.fnOf x x (defArgs st) (defBody st) (defScope st) .none kV doc pm an cdv ct) ⟨us, []⟩ = pure (ps.zip us)) : DefAt K mg x st ps :=
  ⟨f, _, fun_mk l c k, PySem.W.mg_of X G a, (fun_mk l c k).binds b⟩
theorem ExcAt.mk' (X : K.In h) (G : h.Ns mainGlobals mg) (a : PySem.W.nsIn K mainGlobals x = some (some (.ref C)))
    (q : PySem.W.excIn K C [.type "ValueError", .type "Exception", .type "BaseException", .type "object"] "ValueError.__new__" = true) (k : PySem.W.keepIn K (.ref C) = true)
    (b : PySem.W.subIn K (.ref C) (.type "BaseException") = some true) (t : PySem.W.typeIn K (.ref C) = some (.type "type")) : ExcAt K mg x C := ⟨PySem.W.mg_of X G a, q, k, b, t⟩
structure MkAt (K : PySem.W.Frag) (mg : Str → Option Value) (x q : Str) (C : Addr) (st : Stmt) (ps : List Str) : Prop where
  ex : ∃ f fd, Mk K C f ∧ Fun K "__init__" q st f fd ∧ mg x = some (.ref C) ∧ Binds K fd ps []
theorem MkAt.mk' (X : K.In h) (G : h.Ns mainGlobals mg) (aC : PySem.W.nsIn K mainGlobals x = some (some (.ref C))) (a : PySem.W.findIn K (.ref C) "__init__" = some (some (.ref f))) (i : PySem.W.isFn K (.ref f) = true)
    (l : K.lookup f = some ⟨oc, od, .func (PySem.W.fnOf "__init__" q (defArgs st) (defBody st) (defScope st) .none kV doc pm an cdv ct), osl⟩)
    (c : PySem.W.codeIn K cdv q = true) (k : PySem.W.keepIn K (.ref f) = true) (mk : PySem.W.makesIn K C = true) (kc : PySem.W.keepIn K (.ref C) = true)
    (b : ∀ (kV doc pm : Value) (an : Option Addr) (cdv ct : Value) (us : List Value), us.length = ps.length → bindArgs (PySem.W.fnOf "__init__" q (defArgs st) (defBody st) (defScope st) .none kV doc pm an cdv ct) ⟨us, []⟩ = pure (ps.zip us)) : MkAt K mg x q C st ps :=
  ⟨f, _, ⟨mk, a, i, kc⟩, fun_mk l c k, PySem.W.mg_of X G aC, (fun_mk l c k).binds b⟩
variable {P : Program} {w : World} {base : Heap} {N : List Str} {sp : Sp} {n : Nat}
theorem MkAt.cal (D : MkAt K mg x q C st ps) (S : FnScope N ps (defScope st)) (len : ∀ vs H Q E, sp vs H Q E → vs.length = ps.length) (t : XK → TS)
    (der : ∀ (f : Addr) (cdv : Value) (A : Around) (outer : List Env) (s : Shared) (H : Hp) (E : XK), Room n (A.deeper (envOfC q (defScope st) s.heap.objs.size f cdv)) → PSs (cxOf (L2.CX P w) P w K mg base N q (defScope st) f cdv A outer s H E) (defBody st) (t E))
    (pure : ∀ vs H Q E, sp vs H Q E → t E { nx := fun _ H' => Q .non H', rt := Q } (start N vs) H) : CalMk P w K mg base (n + 1) x C ps sp := by
  obtain ⟨f, fd, M, F, hm, hb⟩ := D.ex
  exact ⟨f, fd, M, F.okX S len fun cdv A outer s H vs Q E hr h => ⟨t E, der f cdv A outer s H E hr, pure vs H Q E h⟩, hm, hb⟩
theorem Fun.fn {fd : FuncData} (F : Fun K x q st f fd) (S : FnScope N ps (defScope st)) (len : ∀ vs H Q E, sp vs H Q E → vs.length = ps.length) (t : XK → TS)
    (der : ∀ (f : Addr) (cdv : Value) (A : Around) (outer : List Env) (s : Shared) (H : Hp) (E : XK), Room n (A.deeper (envOfC q (defScope st) s.heap.objs.size f cdv)) → PSs (cxOf (L2.CX P w) P w K mg base N q (defScope st) f cdv A outer s H E) (defBody st) (t E))
    (pure : ∀ vs H Q E, sp vs H Q E → t E { nx := fun _ H' => Q .non H', rt := Q } (start N vs) H) : FnOk P w K mg base (L2.CX P w) (n + 1) f fd ps sp :=
  F.okX S len fun cdv A outer s H vs Q E hr h => ⟨t E, der f cdv A outer s H E hr, pure vs H Q E h⟩
theorem law_mk {k : Nat} {fa : Addr} (X : K.In h) (G : h.Ns mainGlobals mg) (hfa : mg "law" = some (.ref fa)) (a : PySem.W.nsIn K mainGlobals "law" = some (some (.ref f)))
    (l : K.lookup f = some ⟨oc, od, .func (PySem.W.fnOf "law" "law" (defArgs st) (defBody st) (defScope st) .none kV doc pm an cdv ct), osl⟩) (c : PySem.W.codeIn K cdv "law" = true) (kk : PySem.W.keepIn K (.ref f) = true)
    (b : ∀ (s : Shared) (v : Value), BindsTo s (PySem.W.fnOf "law" "law" (defArgs st) (defBody st) (defScope st) .none kV doc pm an cdv ct) ⟨[v], []⟩ [(x, v)])
    (run : ∀ (base : Heap) (fd : FuncData), Fun K "law" "law" st fa fd → FnOk P w K mg base (L2.CX P w) k fa fd [x] sp) :
    ∃ fd : FuncData, (∀ (s : Shared) (u : Value), BindsTo s fd ⟨[u], []⟩ [(x, u)]) ∧ ∀ base : Heap, K.In base → base.Ns mainGlobals mg → FnOk P w K mg base (L2.CX P w) k fa fd [x] sp := by
  have e := hfa.symm.trans (PySem.W.mg_of X G a)
  cases e
  exact ⟨_, b, fun base _ _ => run base _ (fun_mk l c kk)⟩
end
def sp_law (K : PySem.W.Frag) : Sp := fun vs H Q _ => ∃ (a : Addr) (ns : List Int), vs = [.ref a] ∧ SqL K H a (ns.map V.int) ∧ ns.length ≤ 63 ∧ ∀ H', Q (.bl true) H'
theorem num_of {p : Program} {lv : List (Str × PySem.W.WData)} {mg : Str → Option Value} {h : Heap} {x : Str} {n : Int} (G : PySem.W.XL p lv mg h) (hm : (x, PySem.W.WData.int n) ∈ lv) : ∃ t, mg x = some (.int n t) := by
  obtain ⟨v, e, r⟩ := G.2.val _ hm
  cases r
  exact ⟨_, e⟩
theorem walk {l : PySem.W.OpenLaw} {k : Nat} {q : Program} {loose : List Str} {XP : (Str → Option Value) → Heap → Prop} {YP : World → Heap → Prop} {d : DefRec} {K : Params → PySem.W.Frag} (hn : l.most = some 63) (hdf : d.params.defaults = []) (hr : Room k callerA)
    (hY : ∀ (w : World) (h : Heap), YP w h → (K w.params).In h)
    (F : ∀ (w : World) (mg : Str → Option Value) (fa : Addr) (h : Heap), (K w.params).In h → h.Ns mainGlobals mg → mg d.name = some (.ref fa) → XP mg h →
      ∃ fd : FuncData, (∀ (s : Shared) (u : Value), BindsTo s fd ⟨[u], []⟩ [("_law_script", u)]) ∧ ∀ base : Heap, (K w.params).In base → base.Ns mainGlobals mg → FnOk l.prog w (K w.params) mg base (L2.CX l.prog w) k fa fd ["_law_script"] (sp_law (K w.params))) :
    PySem.W.WalkO q loose XP YP l.row.toRowW d [] (fun f vs => PySem.call f vs) := by
  refine Att.attach_call (n := 63) hn hdf fun w s₀ s₁ mg mb fa o pm cd doc a vs ns G Y ho hd hcd hmg hobj hints hlen hg => ?_
  have KX := hY w _ Y
  obtain ⟨fd, hb, hF⟩ := F w mg fa _ KX G.T.g hmg G.X
  refine law_call KX G.T.g G.T.b G.T.builtins G.T.nolimit hg hobj hints (Nat.le_trans hlen (by decide)) hr hF hb (fun H hO hS => ⟨a, ns, rfl, hS, hlen, fun _ => rfl⟩) fun H e s' h => ?_
  obtain ⟨_, _, _, _, _, _, _, _, _, _, _, _, z⟩ := h
  exact z.elim
theorem Tx.mk' {K : PySem.W.Frag} {C : Addr} (pg : PySem.W.plainGet K C Str.empty = true) (hd : PySem.W.hasDictIn K C = true) (po : PySem.W.plainOver K C = true) (sa : PySem.W.findIn K (.ref C) "__setattr__" = some (some (.builtin "object.__setattr__")))
    (n1 : PySem.W.findIn K (.ref C) "many" = some none) (n2 : PySem.W.findIn K (.ref C) "total" = some none) (n3 : PySem.W.findIn K (.ref C) "least" = some none) (n4 : PySem.W.findIn K (.ref C) "more" = some none)
    (n5 : PySem.W.findIn K (.ref C) "left" = some none) (n6 : PySem.W.findIn K (.ref C) "right" = some none) : Tx K C := ⟨⟨pg, hd, po, sa⟩, n1, n2, n3, n4, n5, n6⟩
end RB
namespace RB
open PySem PySem.Spec PyProof.Rows L2
local macro_rules | `(tactic| walk_at "ev") => `(tactic| try simp only [tSeq, tIfS, tTest, tNot, tAnd, tOr, tB, tOp, tUn, tVar, tC, tRet, tAsg, gName, tNext, tCB, tCons, tNil, tDrop, tRaise, tChain, tChain3, tAndV, tOrV, tNotV, tIf, tCall, tFld_ap, tLc_ap, tLcR_ap, tFor_ap, tForR_ap, tForR2_ap, nTry, nTryAs, tCallS, tKnown, tBM, gSub, tSl, tNoPart, tPart, tLst, tTup, wipe,
  List.getElem?_cons_zero, List.getElem?_cons_succ, List.set_cons_zero, List.set_cons_succ, ex_some, ex_bl, ex_int, List.nil_append, List.cons_append, List.append_nil,
  nAdd_ap, nSub_ap, nLt_ap, nLe_ap, nGt_ap, nGe_ap, nMul_ap, nMulW_ap, nDiv_ap, nMod_ap, nPow_ap, nNeg_ap, nMax_ap, nMin_ap, rEq_ap, rNe_ap, nIs_ap, nIsNot_ap, dec_int_non, dec_ref_non, dec_non_non, ref_non, int_non, non_ref, non_int, isi_int_int, isi_int_bool,
  decide_eq_true_eq, Bool.not_eq_true', decide_eq_false_iff_not, decide_true, decide_false, Bool.not_true, Bool.not_false, ite_tt', ite_ff', Bool.false_eq_true, Bool.true_eq_false, not_true_eq_false, not_false_eq_true, if_true, if_false])
section
variable {K : PySem.W.Frag} {C : Addr}
def sp_joined (C : Addr) : Sp := fun vs H Q _ => ∃ (pa pb : Addr) (a b : T) (o : Int), vs = [.ref pa, .ref pb, .int o] ∧ TreeAt C H pa a ∧ TreeAt C H pb b ∧ 0 ≤ a.many ∧ 0 ≤ b.many ∧ a.many + b.many ≤ 1000000000000 ∧
  ∀ (x : Addr) (H' : Hp), Same H H' → H x = none → TreeAt C H' x (.node (a.many + b.many) (a.tot + b.tot + (a.many + b.many) * o) (min a.low b.low + o) o a b) → Q (.ref x) H'
theorem p_joined (X : Tx K C) (vs : List V) (H : Hp) (Q : VK) (E : XK) (h : sp_joined C vs H Q E) :
    t_joined K C (sp_Tree C) E { nx := fun _ H' => Q .non H', rt := Q } (start ["left", "right", "more", "many", "total"] vs) H := by
  obtain ⟨pa, pb, a, b, o, rfl, ha, hb, a0, b0, hm, q⟩ := h
  obtain ⟨dxa, La, Ra, hpa⟩ := ha.root
  obtain ⟨dxb, Lb, Rb, hpb⟩ := hb.root
  show t_joined K C (sp_Tree C) E _ [some (.ref pa), some (.ref pb), some (.int o), none, none] H
  unfold t_joined
  walk_at "ev"
  simp only [f_many X hpa]
  walk_at "ev"
  simp only [f_many X hpb]
  walk_at "ev"
  simp only [f_total X hpa]
  walk_at "ev"
  simp only [f_total X hpb]
  walk_at "ev"
  refine ⟨.inl ⟨by omega, by omega⟩, ?_⟩
  refine make_tree (m := .int (a.many + b.many)) (t := .int (a.tot + b.tot + (a.many + b.many) * o)) (l := .int (min a.low b.low + o)) (o := .int o) (L := .ref pa) (R := .ref pb) ?_ fun x dx nx s => q x _ s nx ⟨dx, pa, pb, upd_same, ha.same s, hb.same s⟩
  funext q
  walk_at "ev"
  simp only [f_least X hpa]
  walk_at "ev"
  simp only [f_least X hpb]
  walk_at "ev"
def Made (C : Addr) (H : Hp) (Q : VK) (n : Nat) (xs : List Int) : Prop := ∀ (x : Addr) (H' : Hp) (t : T), Same H H' → H x = none → TreeAt C H' x t → t.Wf → RowIs t xs → t.ht ≤ n → Q (.ref x) H'
def sp_tree_of (K : PySem.W.Frag) (C : Addr) (n : Nat) : Sp := fun vs H Q _ => ∃ (p : Addr) (xs : List Int) (m : Nat), vs = [.ref p] ∧ n = m + 1 ∧ SqL K H p (xs.map V.int) ∧ xs.length ≤ 2 ^ m ∧ xs.length ≤ 1000 ∧ Made C H Q m xs
theorem no_tree_of : ∀ vs H Q E, ¬ sp_tree_of K C 0 vs H Q E := fun vs H Q E h => by
  obtain ⟨_, _, m, _, h, _⟩ := h
  omega
theorem row_leaf {x : Int} : RowIs (.leaf 1 (1 * x) x 0) [x] := ⟨rfl, fun i z h => by
  match i, h with
  | 0, h => exact Option.some.inj h
  | i + 1, h => simp at h⟩
theorem row_none {t l o : Int} : RowIs (.leaf 0 t l o) [] := ⟨rfl, fun i z h => by simp at h⟩
theorem row_join {a b : T} {t l : Int} {xs : List Int} {k : Nat} (hk : k ≤ xs.length) (ha : RowIs a (xs.take k)) (hb : RowIs b (xs.drop k)) : RowIs (.node (a.many + b.many) t l 0 a b) xs := by
  have l1 : a.many = (k : Int) := by rw [ha.1, List.length_take]; omega
  refine ⟨?_, fun i z h => ?_⟩
  · show a.many + b.many = _
    rw [ha.1, hb.1, List.length_take, List.length_drop]
    omega
  · show (if (i : Int) < a.many then a.den i else b.den (i - a.many)) + 0 = z
    rw [Int.add_zero]
    split
    · refine ha.2 i z ?_
      rw [List.getElem?_take_of_lt (by omega)]
      exact h
    · rw [l1, show ((i : Int) - (k : Int)) = ((i - k : Nat) : Int) by omega]
      refine hb.2 (i - k) z ?_
      rw [List.getElem?_drop, show k + (i - k) = i by omega]
      exact h
theorem p_tree_of {n : Nat} (vs : List V) (H : Hp) (Q : VK) (E : XK) (h : sp_tree_of K C (n + 1) vs H Q E) :
    t_tree_of K (sp_even_tree C) (sp_tree_of K C n) (sp_joined C) E { nx := fun _ H' => Q .non H', rt := Q } (start ["numbers", "half"] vs) H := by
  obtain ⟨p, xs, m, rfl, em, hS, hz, hz2, q⟩ := h
  obtain rfl : n = m := by omega
  show t_tree_of K (sp_even_tree C) (sp_tree_of K C n) (sp_joined C) E _ [some (.ref p), none] H
  unfold t_tree_of nTru
  walk_at "ev"
  refine ⟨_, .inl ⟨_, hS, rfl⟩, ?_⟩
  cases xs with
  | nil =>
    show sp_even_tree C [.int 0, .int 0] H Q E
    exact ⟨0, 0, rfl, by omega, by omega, fun x H' s nx hT => q x H' _ s nx hT ⟨by omega, by omega⟩ row_none (Nat.zero_le _)⟩
  | cons x0 r =>
  rw [if_neg (show ¬ ((!(List.map V.int (x0 :: r)).isEmpty) = false) from fun z => by cases z)]
  refine nLen_ap hS ?_
  rw [List.length_map]
  walk_at "ev"
  split
  · rename_i h1
    have h1' : r = [] := by
      cases r with
      | nil => rfl
      | cons _ _ => rw [List.length_cons, List.length_cons] at h1; omega
    subst h1'
    refine ixL_ap (j := 0) hS rfl ?_
    exact ⟨1, x0, rfl, by omega, by omega, fun x H' s nx hT => q x H' _ s nx hT ⟨by omega, by omega⟩ row_leaf (Nat.zero_le _)⟩
  rename_i h1
  refine nLen_ap hS ?_
  rw [List.length_map]
  have h2 : 2 ≤ (x0 :: r).length := by
    rw [List.length_cons] at h1 ⊢
    omega
  generalize x0 :: r = xs at *
  clear h1
  walk_at "ev"
  refine ⟨⟨by decide, by decide⟩, ?_⟩
  generalize ek : xs.length / 2 = k
  have ek' : ((xs.length : Nat) : Int) / 2 = (k : Int) := by omega
  rw [ek']
  cases n with
  | zero => rw [Nat.pow_zero] at hz; omega
  | succ n =>
  rw [Nat.pow_succ] at hz
  refine slL_ap hS fun r1 n1 => ?_
  rw [cutV_head (by omega)]
  have s1 := same_new n1 (.lst ((xs.take k).map V.int))
  refine ⟨r1, _, n, rfl, rfl, SqL.of upd_same, by rw [List.length_take]; omega, by rw [List.length_take]; omega, fun pa H1 a s2 n2 hTa wa ra ga => ?_⟩
  walk_at "ev"
  refine slL_ap (s2.seq (s1.seq hS)) fun r2 n3 => ?_
  rw [cutV_tail (by omega)]
  have s3 := same_new n3 (.lst ((xs.drop k).map V.int))
  refine ⟨r2, _, n, rfl, rfl, SqL.of upd_same, by rw [List.length_drop]; omega, by rw [List.length_drop]; omega, fun pb H2 b s4 n4 hTb wb rb gb => ?_⟩
  walk_at "ev"
  have la := ra.1
  have lb := rb.1
  rw [List.length_take] at la
  rw [List.length_drop] at lb
  refine ⟨pa, pb, a, b, 0, rfl, (hTa.same s3).same s4, hTb, by omega, by omega, by omega, fun x H' s5 n5 hT => q x H' _ (s1.trans (s2.trans (s3.trans (s4.trans s5)))) (s1.free (s2.free (s3.free (s4.free n5)))) hT ⟨wa, wb, by omega, by omega, rfl, rfl, rfl, by omega⟩ (row_join (by omega) ra rb) ?_⟩
  show max a.ht b.ht + 1 ≤ n + 1
  omega
def sp_made (K : PySem.W.Frag) (C CN : Addr) : Sp := fun vs H Q E => ∃ (p : Addr) (xs : List Int), vs = [.ref p] ∧ SqL K H p (xs.map V.int) ∧ (xs.length ≤ 1000 → Made C H Q 10 xs) ∧ (1000 < xs.length → E (.ref CN) none H)
theorem p_made {CN : Addr} (vs : List V) (H : Hp) (Q : VK) (E : XK) (h : sp_made K C CN vs H Q E) :
    t_made K CN (sp_tree_of K C 11) E { nx := fun _ H' => Q .non H', rt := Q } (start ["numbers"] vs) H := by
  obtain ⟨p, xs, rfl, hS, q1, q2⟩ := h
  show t_made K CN (sp_tree_of K C 11) E _ [some (.ref p)] H
  unfold t_made
  walk_at "ev"
  refine nLen_ap hS ?_
  rw [List.length_map]
  walk_at "ev"
  split
  · exact q2 (by omega)
  · exact ⟨p, xs, 10, rfl, rfl, hS, by omega, by omega, q1 (by omega)⟩
def sp_total_in (C : Addr) (n : Nat) : Sp := fun vs H Q _ => ∃ (p : Addr) (t : T) (lo hi : Int), vs = [.ref p, .int lo, .int hi] ∧ TreeAt C H p t ∧ t.Wf ∧ t.ht < n ∧ t.many ≤ 1000000000000 ∧ Q (.int (cut t lo hi).sum) H
theorem no_total_in : ∀ vs H Q E, ¬ sp_total_in C 0 vs H Q E := fun vs H Q E h => by
  obtain ⟨_, t, _, _, _, _, _, h, _⟩ := h
  omega
theorem p_total_in (X : Tx K C) {n : Nat} (vs : List V) (H : Hp) (Q : VK) (E : XK) (h : sp_total_in C (n + 1) vs H Q E) :
    t_total_in K (sp_total_in C n) E { nx := fun _ H' => Q .non H', rt := Q } (start ["tree", "low", "high", "half", "ahead", "behind"] vs) H := by
  obtain ⟨p, t, lo, hi, rfl, hT, wf, hh, hz, q⟩ := h
  show t_total_in K (sp_total_in C n) E _ [some (.ref p), some (.int lo), some (.int hi), none, none, none] H
  unfold t_total_in
  obtain ⟨dx, L, R, hp⟩ := hT.root
  walk_at "ev"
  simp only [f_many X hp]
  walk_at "ev"
  have nn := wf.nn
  split
  · rename_i hc
    rw [cut_none hc] at q
    exact q
  rename_i hc
  simp only [f_many X hp]
  walk_at "ev"
  split
  · rename_i h1
    simp only [f_total X hp]
    rw [cut_whole h1 nn (by omega), cut_tot wf] at q
    exact q
  rename_i h1
  cases t with
  | leaf m t l o =>
    obtain ⟨dx, hp⟩ := hT
    have hc' : ¬ min hi m ≤ max lo 0 := hc
    have hz' : m ≤ 1000000000000 := hz
    have nn' : 0 ≤ m := nn
    simp only [f_left X hp]
    walk_at "ev"
    simp only [f_least X hp]
    walk_at "ev"
    show CMul (min hi m - max lo 0) l ∧ Q (.int ((min hi m - max lo 0) * l)) H
    refine ⟨.inl ⟨by omega, by omega⟩, ?_⟩
    rw [cut_leaf, sum_replicate, show (((min hi m - max lo 0).toNat : Nat) : Int) = min hi m - max lo 0 by omega] at q
    exact q
  | node m t l o a b =>
    obtain ⟨dx, pa, pb, hp, ha, hb⟩ := hT
    obtain ⟨wa, wb, a0, b0, em, et, el⟩ := wf
    have hc' : ¬ min hi m ≤ max lo 0 := hc
    have hz' : m ≤ 1000000000000 := hz
    have hh' : max a.ht b.ht + 1 < n + 1 := hh
    obtain ⟨dxa, La, Ra, hpa⟩ := ha.root
    simp only [f_left X hp]
    walk_at "ev"
    simp only [f_many X hpa, f_left X hp]
    refine ⟨pa, a, _, _, rfl, ha, wa, by omega, by omega, ?_⟩
    walk_at "ev"
    simp only [f_right X hp]
    walk_at "ev"
    refine ⟨pb, b, _, _, rfl, hb, wb, by omega, by omega, ?_⟩
    walk_at "ev"
    simp only [f_more X hp]
    walk_at "ev"
    refine ⟨.inl ⟨by show _ < min hi m - max lo 0; omega, by show min hi m - max lo 0 < _; omega⟩, ?_⟩
    have l1 := cut_len a (max lo 0) (min hi m)
    have l2 := cut_len b (max lo 0 - a.many) (min hi m - a.many)
    rw [cut_node (by omega) (by omega) em, sum_map_add, List.sum_append, List.length_append, l1, l2] at q
    rw [show ((((min (min hi m) a.many - max (max lo 0) 0).toNat + (min (min hi m - a.many) b.many - max (max lo 0 - a.many) 0).toNat : Nat)) : Int) = min hi m - max lo 0 by omega] at q
    exact q
def sp_total (C CO : Addr) (n : Nat) : Sp := fun vs H Q E => ∃ (p : Addr) (t : T) (lo hi : Int), vs = [.ref p, .int lo, .int hi] ∧ TreeAt C H p t ∧ t.Wf ∧ t.ht < n ∧ t.many ≤ 1000000000000 ∧
  ((0 ≤ lo ∧ lo ≤ hi ∧ hi ≤ t.many) → Q (.int (seg t.den lo (hi - lo).toNat).sum) H) ∧ (¬ (0 ≤ lo ∧ lo ≤ hi ∧ hi ≤ t.many) → E (.ref CO) none H)
theorem p_total {CO : Addr} {n : Nat} (vs : List V) (H : Hp) (Q : VK) (E : XK) (h : sp_total C CO n vs H Q E) :
    t_total (sp_check_stretch C CO) (sp_total_in C n) E { nx := fun _ H' => Q .non H', rt := Q } (start ["book", "low", "high"] vs) H := by
  obtain ⟨p, t, lo, hi, rfl, hT, wf, hh, hz, q1, q2⟩ := h
  show t_total (sp_check_stretch C CO) (sp_total_in C n) E _ [some (.ref p), some (.int lo), some (.int hi)] H
  unfold t_total
  walk_at "ev"
  refine ⟨p, t, lo, hi, rfl, hT, fun hc => ⟨p, t, lo, hi, rfl, hT, wf, hh, hz, ?_⟩, q2⟩
  have := q1 hc
  unfold cut
  rw [show max lo 0 = lo by omega, show min hi t.many = hi by omega]
  exact this
end
end RB
namespace RB
open PySem PySem.Spec PyProof.Rows L2
local macro_rules | `(tactic| walk_at "ev") => `(tactic| try simp only [tSeq, tIfS, tTest, tNot, tAnd, tOr, tB, tOp, tUn, tVar, tC, tRet, tAsg, gName, tNext, tCB, tCons, tNil, tDrop, tRaise, tChain, tChain3, tAndV, tOrV, tNotV, tIf, tCall, tFld_ap, tLc_ap, tLcR_ap, tFor_ap, tForR_ap, tForR2_ap, nTry, nTryAs, tCallS, tKnown, tBM, gSub, tSl, tNoPart, tPart, tLst, tTup, wipe,
  List.getElem?_cons_zero, List.getElem?_cons_succ, List.set_cons_zero, List.set_cons_succ, ex_some, ex_bl, ex_int, List.nil_append, List.cons_append, List.append_nil,
  nAdd_ap, nSub_ap, nLt_ap, nLe_ap, nGt_ap, nGe_ap, nMul_ap, nMulW_ap, nDiv_ap, nMod_ap, nPow_ap, nNeg_ap, nMax_ap, nMin_ap, rEq_ap, rNe_ap, nIs_ap, nIsNot_ap, dec_int_non, dec_ref_non, dec_non_non, ref_non, int_non, non_ref, non_int, isi_int_int, isi_int_bool,
  decide_eq_true_eq, Bool.not_eq_true', decide_eq_false_iff_not, decide_true, decide_false, Bool.not_true, Bool.not_false, ite_tt', ite_ff', Bool.false_eq_true, Bool.true_eq_false, not_true_eq_false, not_false_eq_true, if_true, if_false])
section
variable {K : PySem.W.Frag} {C : Addr}
def sp_l_row_by : Sp := fun vs H Q _ => ∃ (c o n : Int), vs = [.int c, .int o, .int n] ∧ 0 ≤ n ∧ n ≤ 1000 ∧ ∀ (r : Addr) (H' : Hp) (xs : List Int), Same H H' → H r = none → xs.length = n.toNat → H' r = some (.lst (xs.map V.int)) → Q (.ref r) H'
theorem p_l_row_by (vs : List V) (H : Hp) (Q : VK) (E : XK) (h : sp_l_row_by vs H Q E) :
    t_l_row_by sp_l_number_by E { nx := fun _ H' => Q .non H', rt := Q } (start ["_law_cell", "_law_other", "_law_size", "_law_k"] vs) H := by
  obtain ⟨c, o, n, rfl, h0, h1, q⟩ := h
  show t_l_row_by sp_l_number_by E _ [some (.int c), some (.int o), some (.int n), none] H
  unfold t_l_row_by
  walk_at "ev"
  refine ⟨by decide, ?_⟩
  split
  · refine lc_rng (ys := ((List.range n.toNat).map fun k : Nat => numBy (o + 4 * ((k : Int) / (1 + c / 3 % 9)))).map V.int) (by omega) (by omega) (by rw [List.length_map, List.length_map, List.length_range]) ?_ fun D H' s nD e => q D H' _ s nD (by rw [List.length_map, List.length_range]) e
    intro j y H' Q' hj hy s q'
    walk_at "ev"
    refine ⟨⟨by decide, by decide⟩, by decide, ⟨by omega, by omega⟩, .inl ⟨by decide, by decide⟩, ?_⟩
    rw [l_number_by_ap]
    rw [List.map_map, List.getElem?_map, List.getElem?_range (show j < n.toNat by omega)] at hy
    cases hy
    exact q'
  · refine lc_rng (ys := ((List.range n.toNat).map fun k : Nat => numBy (c / 3 + o * (k : Int) * k + 13 * k)).map V.int) (by omega) (by omega) (by rw [List.length_map, List.length_map, List.length_range]) ?_ fun D H' s nD e => q D H' _ s nD (by rw [List.length_map, List.length_range]) e
    intro j y H' Q' hj hy s q'
    walk_at "ev"
    refine ⟨⟨by decide, by decide⟩, .inr ⟨by omega, by omega⟩, .inr ⟨by omega, by omega⟩, .inl ⟨by decide, by decide⟩, ?_⟩
    rw [l_number_by_ap]
    rw [List.map_map, List.getElem?_map, List.getElem?_range (show j < n.toNat by omega)] at hy
    cases hy
    exact q'
end
end RB
namespace RB
open PySem PySem.Spec PyProof.Rows L2
local macro_rules | `(tactic| walk_at "ev") => `(tactic| try simp only [tSeq, tIfS, tTest, tNot, tAnd, tOr, tB, tOp, tUn, tVar, tC, tRet, tAsg, gName, tNext, tCB, tCons, tNil, tDrop, tRaise, tChain, tChain3, tAndV, tOrV, tNotV, tIf, tCall, tFld_ap, tLc_ap, tLcR_ap, tFor_ap, tForR_ap, tForR2_ap, nTry, nTryAs, tCallS, tKnown, tBM, gSub, tSl, tNoPart, tPart, tLst, tTup, wipe,
  List.getElem?_cons_zero, List.getElem?_cons_succ, List.set_cons_zero, List.set_cons_succ, ex_some, ex_bl, ex_int, List.nil_append, List.cons_append, List.append_nil,
  nAdd_ap, nSub_ap, nLt_ap, nLe_ap, nGt_ap, nGe_ap, nMul_ap, nMulW_ap, nDiv_ap, nMod_ap, nPow_ap, nNeg_ap, nMax_ap, nMin_ap, rEq_ap, rNe_ap, nIs_ap, nIsNot_ap, dec_int_non, dec_ref_non, dec_non_non, ref_non, int_non, non_ref, non_int, isi_int_int, isi_int_bool,
  decide_eq_true_eq, Bool.not_eq_true', decide_eq_false_iff_not, decide_true, decide_false, Bool.not_true, Bool.not_false, ite_tt', ite_ff', Bool.false_eq_true, Bool.true_eq_false, not_true_eq_false, not_false_eq_true, if_true, if_false])
section
variable {K : PySem.W.Frag} {C CO CN : Addr}
theorem sum_take' {l : List Int} {i : Nat} {z : Int} (h : l[i]? = some z) : (l.take (i + 1)).sum = (l.take i).sum + z := sum_take h
theorem sum_const (v lo : Int) (n : Nat) : (seg (fun _ => v) lo n).sum = (n : Int) * v := by rw [seg_const, sum_replicate]
theorem k03_13 (X : Tx K C) {H : Hp} {Q : VK} {E : XK} {nx : L2.St → Hp → Prop} {a : Addr} {ns : List Int} {m lo hi : Int} {o1 o2 o3 o4 o5 o6 o7 : Option V} (hS : SqL K H a (ns.map V.int)) (h0 : 0 ≤ lo) (h1 : lo ≤ hi) (h2 : hi ≤ m) (hm : m ≤ 1000000000000) (q : ∀ H', Q (.bl true) H') :
    t_law_k03_14 K (sp_l_cell_at K) sp_l_row_by (sp_made K C CN) (sp_total C CO 11) sp_l_whole sp_l_number_by (sp_even C CN) E { nx := nx, rt := Q } [some (.ref a), o1, o2, o3, o4, o5, o6, o7, some (.int m), some (.int lo), some (.int hi)] H := by
  unfold t_law_k03_14
  walk_at "ev"
  refine ⟨a, ns, 8, rfl, hS, ?_⟩
  simp only [l_number_by_ap]
  generalize numBy (cell ns 8) = v
  unfold t_law_k03_15
  walk_at "ev"
  refine ⟨m, v, rfl, fun _ b H1 s1 n1 hT => ?_, fun z => absurd (show 0 ≤ m ∧ m ≤ 1000000000000 by omega) z⟩
  walk_at "ev"
  refine ⟨b, _, lo, hi, rfl, hT, ⟨by omega, rfl⟩, (by show 0 < 11; decide), hm, fun _ => ?_, fun z => absurd (show 0 ≤ lo ∧ lo ≤ hi ∧ hi ≤ m by omega) z⟩
  have e : (seg (T.leaf m (m * v) v 0).den lo (hi - lo).toNat).sum = v * (hi - lo) := by
    have := sum_const v lo (hi - lo).toNat
    rw [show (((hi - lo).toNat : Nat) : Int) = hi - lo by omega, Int.mul_comm] at this
    exact this
  rw [e]
  unfold t_law_k03_16
  walk_at "ev"
  rw [l_whole_ap]
  walk_at "ev"
  refine ⟨.inr ⟨by omega, by omega⟩, ?_⟩
  exact q H1
theorem k03_9 (X : Tx K C) {H : Hp} {Q : VK} {E : XK} {nx : L2.St → Hp → Prop} {a : Addr} {ns : List Int} {o1 o2 o3 o4 o5 o6 o7 o8 o9 o10 : Option V} (hS : SqL K H a (ns.map V.int)) (q : ∀ H', Q (.bl true) H') :
    t_law_k03_9 K (sp_l_cell_at K) sp_l_row_by (sp_made K C CN) (sp_total C CO 11) sp_l_whole sp_l_number_by (sp_even C CN) E { nx := nx, rt := Q } [some (.ref a), o1, o2, o3, o4, o5, o6, o7, o8, o9, o10] H := by
  unfold t_law_k03_9
  walk_at "ev"
  refine ⟨a, ns, 5, rfl, hS, ?_⟩
  walk_at "ev"
  rw [show (10 : Int) ^ Int.toNat 12 + 1 = 1000000000001 by decide]
  refine ⟨⟨by decide, by decide, by decide⟩, by decide, ?_⟩
  have m0 : 0 ≤ cell ns 5 % 1000000000001 := by omega
  have m1 : cell ns 5 % 1000000000001 ≤ 1000000000000 := by omega
  generalize cell ns 5 % 1000000000001 = m at m0 m1 ⊢
  unfold t_law_k03_10
  walk_at "ev"
  refine ⟨a, ns, 6, rfl, hS, ?_⟩
  walk_at "ev"
  refine ⟨⟨by decide, by decide⟩, by omega, ?_⟩
  have l0 := Int.emod_nonneg (cell ns 6 / 3) (show m + 1 ≠ 0 by omega)
  have l1 := Int.emod_lt_of_pos (cell ns 6 / 3) (show 0 < m + 1 by omega)
  generalize cell ns 6 / 3 % (m + 1) = lo at l0 l1 ⊢
  have main : ∀ lo : Int, 0 ≤ lo → lo ≤ m → t_law_k03_12 K (sp_l_cell_at K) sp_l_row_by (sp_made K C CN) (sp_total C CO 11) sp_l_whole sp_l_number_by (sp_even C CN) E { nx := nx, rt := Q } [some (.ref a), o1, o2, o3, o4, o5, o6, o7, some (.int m), some (.int lo), o10] H := by
    intro lo l0 l1
    unfold t_law_k03_12
    walk_at "ev"
    refine ⟨a, ns, 7, rfl, hS, ?_⟩
    walk_at "ev"
    refine ⟨⟨by decide, by decide⟩, by omega, ?_⟩
    have w0 := Int.emod_nonneg (cell ns 7 / 3) (show m - lo + 1 ≠ 0 by omega)
    have w1 := Int.emod_lt_of_pos (cell ns 7 / 3) (show 0 < m - lo + 1 by omega)
    generalize cell ns 7 / 3 % (m - lo + 1) = w at w0 w1 ⊢
    unfold t_law_k03_13
    walk_at "ev"
    refine ⟨a, ns, 7, rfl, hS, ?_⟩
    walk_at "ev"
    refine ⟨by decide, ?_⟩
    split
    · exact k03_13 X hS l0 l1 (Int.le_refl _) m1 q
    · exact k03_13 X hS l0 (by omega) (by omega) m1 q
  unfold t_law_k03_11
  walk_at "ev"
  refine ⟨a, ns, 6, rfl, hS, ?_⟩
  walk_at "ev"
  refine ⟨by decide, ?_⟩
  split
  · exact main 0 (by omega) (by omega)
  · exact main lo l0 (by omega)
theorem k03_2 (X : Tx K C) {H : Hp} {Q : VK} {E : XK} {nx : L2.St → Hp → Prop} {a : Addr} {ns : List Int} {m : Int} (hS : SqL K H a (ns.map V.int)) (h0 : 0 ≤ m) (hm : m ≤ 1000) (q : ∀ H', Q (.bl true) H') :
    t_law_k03_2 K (sp_l_cell_at K) sp_l_row_by (sp_made K C CN) (sp_total C CO 11) sp_l_whole sp_l_number_by (sp_even C CN) E { nx := nx, rt := Q } [some (.ref a), some (.int m), none, none, none, none, none, none, none, none, none] H := by
  unfold t_law_k03_2
  walk_at "ev"
  refine ⟨a, ns, 1, rfl, hS, ?_⟩
  walk_at "ev"
  refine ⟨a, ns, 2, rfl, hS, ?_⟩
  walk_at "ev"
  refine ⟨_, _, m, rfl, h0, hm, fun ra H1 xs s1 n1 ex e1 => ?_⟩
  have hS1 := s1.seq hS
  unfold t_law_k03_3
  walk_at "ev"
  refine ⟨a, ns, 3, rfl, hS1, ?_⟩
  walk_at "ev"
  refine ⟨by omega, ?_⟩
  have l0 := Int.emod_nonneg (cell ns 3) (show m + 1 ≠ 0 by omega)
  have l1 := Int.emod_lt_of_pos (cell ns 3) (show 0 < m + 1 by omega)
  generalize cell ns 3 % (m + 1) = lo at l0 l1 ⊢
  unfold t_law_k03_4
  walk_at "ev"
  refine ⟨a, ns, 4, rfl, hS1, ?_⟩
  walk_at "ev"
  refine ⟨by omega, ?_⟩
  have w0 := Int.emod_nonneg (cell ns 4) (show m - lo + 1 ≠ 0 by omega)
  have w1 := Int.emod_lt_of_pos (cell ns 4) (show 0 < m - lo + 1 by omega)
  generalize cell ns 4 % (m - lo + 1) = w at w0 w1 ⊢
  unfold t_law_k03_5
  walk_at "ev"
  unfold t_law_k03_6
  walk_at "ev"
  refine slL_ap (SqL.of e1) fun sl n2 => ?_
  rw [cutV_ints l0 (by omega) (by omega)]
  generalize ez : (xs.drop lo.toNat).take (lo + w - lo).toNat = zs
  have s2 := same_new n2 (.lst (zs.map V.int))
  have hS2 := s2.seq hS1
  have e2 := s2 _ _ e1
  have e2' : (upd H1 sl (.lst (zs.map V.int))) sl = some (.lst (zs.map V.int)) := upd_same
  generalize upd H1 sl (.lst (zs.map V.int)) = H2 at s2 hS2 e2 e2'
  refine ⟨sl, rfl, ⟨_, SqL.of e2'⟩, for_list (K := K) (a := sl) (xs := zs.map V.int) (fun i σ H' => H' = H2 ∧ ∃ o6 : Option V, σ = [some (.ref a), some (.int m), some (.ref ra), some (.int lo), some (.int (lo + w)), some (.int (zs.take i).sum), o6, none, none, none, none]) ?_ ?_ ?_ ?_⟩
  · exact ⟨rfl, none, rfl⟩
  · rintro i σ H' _ ⟨rfl, _⟩
    exact SqL.of e2'
  · rintro i x σ H' hx ⟨rfl, o6, rfl⟩
    rw [List.getElem?_map] at hx
    cases ei : zs[i]? with
    | none => rw [ei] at hx; cases hx
    | some z =>
      rw [ei] at hx
      cases hx
      walk_at "ev"
      exact ⟨trivial, some (.int z), by rw [sum_take' ei]⟩
  · rintro σ H' ⟨rfl, o6, rfl⟩
    rw [List.length_map, List.take_length]
    show t_law_k03_7 K (sp_l_cell_at K) sp_l_row_by (sp_made K C CN) (sp_total C CO 11) sp_l_whole sp_l_number_by (sp_even C CN) E { nx := nx, rt := Q } _ H'
    unfold t_law_k03_7
    walk_at "ev"
    refine list_ap (SqL.of e2) fun cp n3 => ?_
    have s3 := same_new n3 (.lst (xs.map V.int))
    walk_at "ev"
    refine ⟨cp, xs, rfl, SqL.of upd_same, fun _ b H4 t s4 n4 hT wf rw' ht => ?_, fun z => by omega⟩
    have hl := rw'.1
    walk_at "ev"
    refine ⟨b, t, lo, lo + w, rfl, hT, wf, by omega, by omega, fun _ => ?_, fun z => absurd (show 0 ≤ lo ∧ lo ≤ lo + w ∧ lo + w ≤ t.many by omega) z⟩
    rw [seg_rowI rw' l0 (by omega) (by omega), ez]
    unfold t_law_k03_8
    walk_at "ev"
    simp only [l_whole_ap]
    walk_at "ev"
    exact k03_9 X (s4.seq (s3.seq hS2)) q
theorem p_law_k03 (X : Tx K C) (vs : List V) (H : Hp) (Q : VK) (E : XK) (h : sp_law K vs H Q E) :
    t_law_k03 K (sp_l_cell_at K) sp_l_row_by (sp_made K C CN) (sp_total C CO 11) sp_l_whole sp_l_number_by (sp_even C CN) E { nx := fun _ H' => Q .non H', rt := Q }
      (start ["_law_script", "_law_size", "_law_row", "_law_low", "_law_high", "_law_due", "_law_number", "_law_found", "_law_many", "_law_begin", "_law_ending"] vs) H := by
  obtain ⟨a, ns, rfl, hS, _, q⟩ := h
  show t_law_k03 K (sp_l_cell_at K) sp_l_row_by (sp_made K C CN) (sp_total C CO 11) sp_l_whole sp_l_number_by (sp_even C CN) E _ [some (.ref a), none, none, none, none, none, none, none, none, none, none] H
  unfold t_law_k03
  walk_at "ev"
  refine ⟨a, ns, 0, rfl, hS, ?_⟩
  walk_at "ev"
  refine ⟨by decide, ?_⟩
  unfold t_law_k03_1
  walk_at "ev"
  refine ⟨a, ns, 0, rfl, hS, ?_⟩
  walk_at "ev"
  refine ⟨⟨by decide, by decide⟩, by decide, ?_⟩
  split
  · refine ⟨a, ns, 0, rfl, hS, ?_⟩
    walk_at "ev"
    exact ⟨⟨by decide, by decide⟩, by decide, k03_2 X hS (by omega) (by omega) q⟩
  · exact k03_2 X hS (by omega) (by omega) q
end
end RB
namespace RB
open PySem PySem.Spec PyProof.Rows L2 LamX NdefX
def top (i : Nat) : Stmt := PySem.Challenge.pw_rangebook_k03_totals.main.body.getD i (.Pass ⟨0, 0, 0, 0⟩)
abbrev st_check_stretch : Stmt := top 5
abbrev st_Tree_init : Stmt := inClass (top 7) 0
abbrev st_even_tree : Stmt := top 8
abbrev st_joined : Stmt := top 9
abbrev st_tree_of : Stmt := top 10
abbrev st_total_in : Stmt := top 11
abbrev st_total : Stmt := top 13
abbrev st_made : Stmt := top 17
abbrev st_even : Stmt := top 18
abbrev st_l_whole : Stmt := top 20
abbrev st_l_cell_at : Stmt := top 21
abbrev st_l_number_by : Stmt := top 22
abbrev st_l_row_by : Stmt := top 23
abbrev st_law_k03 : Stmt := top 24
theorem sc_check_stretch : FnScope ["book", "low", "high"] ["book", "low", "high"] (defScope st_check_stretch) := ⟨rfl, rfl, rfl, by decide +kernel, rfl, by decide +kernel, by decide +kernel⟩
theorem d_check_stretch {P : Program} {w : World} {K : PySem.W.Frag} {mg : Str → Option Value} {base : Heap} {k : Nat} {C_OutOfRow : Addr}
    (x_OutOfRow : ExcAt K mg "OutOfRow" C_OutOfRow)
    (f : Addr) (cdv : Value) (A : Around) (outer : List Env) (s : Shared) (H : Hp) (E : XK) (hr : Room k (A.deeper (envOfC "check_stretch" (defScope st_check_stretch) s.heap.objs.size f cdv))) :
    PSs (cxOf (L2.CX P w) P w K mg base ["book", "low", "high"] "check_stretch" (defScope st_check_stretch) f cdv A outer s H E) (defBody st_check_stretch) (t_check_stretch K C_OutOfRow E) :=
  (pss_one (ps_if (pt_not (pt_chain3 oLe oLe oLe pe_int (pv 1) (pv 2) (pe_fld (pv 0) rfl))) (pss_one (ps_raiseC x_OutOfRow rfl)) pss_nil))
theorem sc_Tree_init : FnScope ["self", "many", "total", "least", "more", "left", "right"] ["self", "many", "total", "least", "more", "left", "right"] (defScope st_Tree_init) := ⟨rfl, rfl, rfl, by decide +kernel, rfl, by decide +kernel, by decide +kernel⟩
theorem d_Tree_init {P : Program} {w : World} {K : PySem.W.Frag} {mg : Str → Option Value} {base : Heap} {k : Nat} 
    
    (f : Addr) (cdv : Value) (A : Around) (outer : List Env) (s : Shared) (H : Hp) (E : XK) (hr : Room k (A.deeper (envOfC "Tree.__init__" (defScope st_Tree_init) s.heap.objs.size f cdv))) :
    PSs (cxOf (L2.CX P w) P w K mg base ["self", "many", "total", "least", "more", "left", "right"] "Tree.__init__" (defScope st_Tree_init) f cdv A outer s H E) (defBody st_Tree_init) (t_Tree_init K E) :=
  (pss_cons (ps_fld (pv 0) (pv 1) rfl)
    (pss_cons (ps_fld (pv 0) (pv 2) rfl)
    (pss_cons (ps_fld (pv 0) (pv 3) rfl)
    (pss_cons (ps_fld (pv 0) (pv 4) rfl)
    (pss_cons (ps_fld (pv 0) (pv 5) rfl)
    (pss_one (ps_fld (pv 0) (pv 6) rfl)))))))
theorem sc_even_tree : FnScope ["many", "number"] ["many", "number"] (defScope st_even_tree) := ⟨rfl, rfl, rfl, by decide +kernel, rfl, by decide +kernel, by decide +kernel⟩
theorem d_even_tree {P : Program} {w : World} {K : PySem.W.Frag} {mg : Str → Option Value} {base : Heap} {k : Nat} {C_Tree : Addr} {s_Tree : Sp}
    {k_Tree : Nat} (m_Tree : CalMk P w K mg base k_Tree "Tree" C_Tree ["self", "many", "total", "least", "more", "left", "right"] s_Tree) (h_Tree : k_Tree + 1 ≤ k)
    (f : Addr) (cdv : Value) (A : Around) (outer : List Env) (s : Shared) (H : Hp) (E : XK) (hr : Room k (A.deeper (envOfC "even_tree" (defScope st_even_tree) s.heap.objs.size f cdv))) :
    PSs (cxOf (L2.CX P w) P w K mg base ["many", "number"] "even_tree" (defScope st_even_tree) f cdv A outer s H E) (defBody st_even_tree) (t_even_tree C_Tree s_Tree E) :=
  (pss_one (ps_ret (pe_makeC m_Tree hr (by omega) rfl pass_own (pa_cons (pv 0) (pa_cons (pe_op oMul (pv 0) (pv 1)) (pa_cons (pv 1) (pa_cons pe_int (pa_cons pe_non (pa_cons pe_non pa_nil)))))))))
theorem sc_joined : FnScope ["left", "right", "more", "many", "total"] ["left", "right", "more"] (defScope st_joined) := ⟨rfl, rfl, rfl, by decide +kernel, rfl, by decide +kernel, by decide +kernel⟩
theorem d_joined {P : Program} {w : World} {K : PySem.W.Frag} {mg : Str → Option Value} {base : Heap} {k : Nat} {C_Tree : Addr} {s_Tree : Sp}
    {k_Tree : Nat} (m_Tree : CalMk P w K mg base k_Tree "Tree" C_Tree ["self", "many", "total", "least", "more", "left", "right"] s_Tree) (h_Tree : k_Tree + 1 ≤ k) (z_min : mg "min" = none)
    (f : Addr) (cdv : Value) (A : Around) (outer : List Env) (s : Shared) (H : Hp) (E : XK) (hr : Room k (A.deeper (envOfC "joined" (defScope st_joined) s.heap.objs.size f cdv))) :
    PSs (cxOf (L2.CX P w) P w K mg base ["left", "right", "more", "many", "total"] "joined" (defScope st_joined) f cdv A outer s H E) (defBody st_joined) (t_joined K C_Tree s_Tree E) :=
  (pss_cons (ps_set (i := 3) sc_joined.nd rfl (Or.inl rfl) (pe_op oAdd (pe_fld (pv 0) rfl) (pe_fld (pv 1) rfl)))
    (pss_cons (ps_set (i := 4) sc_joined.nd rfl (Or.inl rfl) (pe_op oAdd (pe_op oAdd (pe_fld (pv 0) rfl) (pe_fld (pv 1) rfl)) (pe_op oMul (pv 3) (pv 2))))
    (pss_one (ps_ret (pe_makeC m_Tree hr (by omega) rfl pass_own (pa_cons (pv 3) (pa_cons (pv 4) (pa_cons (pe_op oAdd (pe_callB (cMin rfl) rfl z_min (by decide +kernel) (pa_cons (pe_fld (pv 0) rfl) (pa_cons (pe_fld (pv 1) rfl) pa_nil))) (pv 2)) (pa_cons (pv 2) (pa_cons (pv 0) (pa_cons (pv 1) pa_nil)))))))))))
theorem sc_tree_of : FnScope ["numbers", "half"] ["numbers"] (defScope st_tree_of) := ⟨rfl, rfl, rfl, by decide +kernel, rfl, by decide +kernel, by decide +kernel⟩
theorem d_tree_of {P : Program} {w : World} {K : PySem.W.Frag} {mg : Str → Option Value} {base : Heap} {k : Nat} {s_even_tree : Sp} {s_tree_of : Sp} {s_joined : Sp}
    {k_even_tree : Nat} (c_even_tree : Cal P w K mg base k_even_tree "even_tree" ["many", "number"] s_even_tree) (h_even_tree : k_even_tree ≤ k) {k_tree_of : Nat} (c_tree_of : Cal P w K mg base k_tree_of "tree_of" ["numbers"] s_tree_of) (h_tree_of : k_tree_of ≤ k) {k_joined : Nat} (c_joined : Cal P w K mg base k_joined "joined" ["left", "right", "more"] s_joined) (h_joined : k_joined ≤ k) (z_len : mg "len" = none)
    (f : Addr) (cdv : Value) (A : Around) (outer : List Env) (s : Shared) (H : Hp) (E : XK) (hr : Room k (A.deeper (envOfC "tree_of" (defScope st_tree_of) s.heap.objs.size f cdv))) :
    PSs (cxOf (L2.CX P w) P w K mg base ["numbers", "half"] "tree_of" (defScope st_tree_of) f cdv A outer s H E) (defBody st_tree_of) (t_tree_of K s_even_tree s_tree_of s_joined E) :=
  (pss_cons (ps_if (pt_not (pt_truth (pv 0) (fun _ => rfl))) (pss_one (ps_ret (pe_callC c_even_tree hr (by omega) rfl pass_own (pa_cons pe_int (pa_cons pe_int pa_nil))))) pss_nil)
    (pss_cons (ps_if (pt_cmpR op_eq (pe_callB cLen rfl z_len boot_len (pa_cons (pv 0) pa_nil)) pe_int (nomark _)) (pss_one (ps_ret (pe_callC c_even_tree hr (by omega) rfl pass_own (pa_cons pe_int (pa_cons (pe_ix ix_list (pv 0) pe_int (fun _ _ => rfl)) pa_nil))))) pss_nil)
    (pss_cons (ps_set (i := 1) sc_tree_of.nd rfl (Or.inl rfl) (pe_op oDiv (pe_callB cLen rfl z_len boot_len (pa_cons (pv 0) pa_nil)) pe_int))
    (pss_one (ps_ret (pe_callC c_joined hr (by omega) rfl pass_own (pa_cons (pe_callC c_tree_of hr (by omega) rfl pass_own (pa_cons (pe_slice sl_list (pv 0) po_none (po_some (pv 1))) pa_nil)) (pa_cons (pe_callC c_tree_of hr (by omega) rfl pass_own (pa_cons (pe_slice sl_list (pv 0) (po_some (pv 1)) po_none) pa_nil)) (pa_cons pe_int pa_nil)))))))))
theorem sc_total_in : FnScope ["tree", "low", "high", "half", "ahead", "behind"] ["tree", "low", "high"] (defScope st_total_in) := ⟨rfl, rfl, rfl, by decide +kernel, rfl, by decide +kernel, by decide +kernel⟩
theorem d_total_in {P : Program} {w : World} {K : PySem.W.Frag} {mg : Str → Option Value} {base : Heap} {k : Nat} {s_total_in : Sp}
    {k_total_in : Nat} (c_total_in : Cal P w K mg base k_total_in "total_in" ["tree", "low", "high"] s_total_in) (h_total_in : k_total_in ≤ k) (z_max : mg "max" = none) (z_min : mg "min" = none)
    (f : Addr) (cdv : Value) (A : Around) (outer : List Env) (s : Shared) (H : Hp) (E : XK) (hr : Room k (A.deeper (envOfC "total_in" (defScope st_total_in) s.heap.objs.size f cdv))) :
    PSs (cxOf (L2.CX P w) P w K mg base ["tree", "low", "high", "half", "ahead", "behind"] "total_in" (defScope st_total_in) f cdv A outer s H E) (defBody st_total_in) (t_total_in K s_total_in E) :=
  (pss_cons (ps_set (i := 1) sc_total_in.nd rfl (Or.inl rfl) (pe_callB (cMax rfl) rfl z_max (by decide +kernel) (pa_cons (pv 1) (pa_cons pe_int pa_nil))))
    (pss_cons (ps_set (i := 2) sc_total_in.nd rfl (Or.inl rfl) (pe_callB (cMin rfl) rfl z_min (by decide +kernel) (pa_cons (pv 2) (pa_cons (pe_fld (pv 0) rfl) pa_nil))))
    (pss_cons (ps_if (pt_cmpR oGe (pv 1) (pv 2) (nomark _)) (pss_one (ps_ret pe_int)) pss_nil)
    (pss_cons (ps_if (pt_cmpR op_eq (pe_op oSub (pv 2) (pv 1)) (pe_fld (pv 0) rfl) (nomark _)) (pss_one (ps_ret (pe_fld (pv 0) rfl))) pss_nil)
    (pss_cons (ps_if (pt_cmpR oIs (pe_fld (pv 0) rfl) pe_non (nomark _)) (pss_one (ps_ret (pe_op oMul (pe_op oSub (pv 2) (pv 1)) (pe_fld (pv 0) rfl)))) pss_nil)
    (pss_cons (ps_set (i := 3) sc_total_in.nd rfl (Or.inl rfl) (pe_fld (pe_fld (pv 0) rfl) rfl))
    (pss_cons (ps_set (i := 4) sc_total_in.nd rfl (Or.inl rfl) (pe_callC c_total_in hr (by omega) rfl pass_own (pa_cons (pe_fld (pv 0) rfl) (pa_cons (pv 1) (pa_cons (pv 2) pa_nil)))))
    (pss_cons (ps_set (i := 5) sc_total_in.nd rfl (Or.inl rfl) (pe_callC c_total_in hr (by omega) rfl pass_own (pa_cons (pe_fld (pv 0) rfl) (pa_cons (pe_op oSub (pv 1) (pv 3)) (pa_cons (pe_op oSub (pv 2) (pv 3)) pa_nil)))))
    (pss_one (ps_ret (pe_op oAdd (pe_op oAdd (pv 4) (pv 5)) (pe_op oMul (pe_op oSub (pv 2) (pv 1)) (pe_fld (pv 0) rfl)))))))))))))
theorem sc_total : FnScope ["book", "low", "high"] ["book", "low", "high"] (defScope st_total) := ⟨rfl, rfl, rfl, by decide +kernel, rfl, by decide +kernel, by decide +kernel⟩
theorem d_total {P : Program} {w : World} {K : PySem.W.Frag} {mg : Str → Option Value} {base : Heap} {k : Nat} {s_check_stretch : Sp} {s_total_in : Sp}
    {k_check_stretch : Nat} (c_check_stretch : Cal P w K mg base k_check_stretch "check_stretch" ["book", "low", "high"] s_check_stretch) (h_check_stretch : k_check_stretch ≤ k) {k_total_in : Nat} (c_total_in : Cal P w K mg base k_total_in "total_in" ["tree", "low", "high"] s_total_in) (h_total_in : k_total_in ≤ k)
    (f : Addr) (cdv : Value) (A : Around) (outer : List Env) (s : Shared) (H : Hp) (E : XK) (hr : Room k (A.deeper (envOfC "total" (defScope st_total) s.heap.objs.size f cdv))) :
    PSs (cxOf (L2.CX P w) P w K mg base ["book", "low", "high"] "total" (defScope st_total) f cdv A outer s H E) (defBody st_total) (t_total s_check_stretch s_total_in E) :=
  (pss_cons (ps_expr (pe_callC c_check_stretch hr (by omega) rfl pass_own (pa_cons (pv 0) (pa_cons (pv 1) (pa_cons (pv 2) pa_nil)))))
    (pss_one (ps_ret (pe_callC c_total_in hr (by omega) rfl pass_own (pa_cons (pv 0) (pa_cons (pv 1) (pa_cons (pv 2) pa_nil)))))))
theorem sc_made : FnScope ["numbers"] ["numbers"] (defScope st_made) := ⟨rfl, rfl, rfl, by decide +kernel, rfl, by decide +kernel, by decide +kernel⟩
theorem d_made {P : Program} {w : World} {K : PySem.W.Frag} {mg : Str → Option Value} {base : Heap} {k : Nat} {C_NoRow : Addr} {s_tree_of : Sp}
    {k_tree_of : Nat} (c_tree_of : Cal P w K mg base k_tree_of "tree_of" ["numbers"] s_tree_of) (h_tree_of : k_tree_of ≤ k) (x_NoRow : ExcAt K mg "NoRow" C_NoRow) (n_MOST_GIVEN : ∃ t, mg "MOST_GIVEN" = some (.int 1000 t)) (z_len : mg "len" = none)
    (f : Addr) (cdv : Value) (A : Around) (outer : List Env) (s : Shared) (H : Hp) (E : XK) (hr : Room k (A.deeper (envOfC "made" (defScope st_made) s.heap.objs.size f cdv))) :
    PSs (cxOf (L2.CX P w) P w K mg base ["numbers"] "made" (defScope st_made) f cdv A outer s H E) (defBody st_made) (t_made K C_NoRow s_tree_of E) :=
  (pss_cons (ps_if (pt_cmpR oGt (pe_callB cLen rfl z_len boot_len (pa_cons (pv 0) pa_nil)) (pe_num rfl n_MOST_GIVEN) (nomark _)) (pss_one (ps_raiseC x_NoRow rfl)) pss_nil)
    (pss_one (ps_ret (pe_callC c_tree_of hr (by omega) rfl pass_own (pa_cons (pv 0) pa_nil)))))
theorem sc_even : FnScope ["many", "number"] ["many", "number"] (defScope st_even) := ⟨rfl, rfl, rfl, by decide +kernel, rfl, by decide +kernel, by decide +kernel⟩
theorem d_even {P : Program} {w : World} {K : PySem.W.Frag} {mg : Str → Option Value} {base : Heap} {k : Nat} {C_NoRow : Addr} {s_even_tree : Sp}
    {k_even_tree : Nat} (c_even_tree : Cal P w K mg base k_even_tree "even_tree" ["many", "number"] s_even_tree) (h_even_tree : k_even_tree ≤ k) (x_NoRow : ExcAt K mg "NoRow" C_NoRow) (n_MOST_PLACES : ∃ t, mg "MOST_PLACES" = some (.int 1000000000000 t))
    (f : Addr) (cdv : Value) (A : Around) (outer : List Env) (s : Shared) (H : Hp) (E : XK) (hr : Room k (A.deeper (envOfC "even" (defScope st_even) s.heap.objs.size f cdv))) :
    PSs (cxOf (L2.CX P w) P w K mg base ["many", "number"] "even" (defScope st_even) f cdv A outer s H E) (defBody st_even) (t_even C_NoRow s_even_tree E) :=
  (pss_cons (ps_if (PW.pt (pw_or (pt_cmpR oLt (pv 0) pe_int (nomark _)) (pw_or1 (pt_cmpR oGt (pv 0) (pe_num rfl n_MOST_PLACES) (nomark _))))) (pss_one (ps_raiseC x_NoRow rfl)) pss_nil)
    (pss_one (ps_ret (pe_callC c_even_tree hr (by omega) rfl pass_own (pa_cons (pv 0) (pa_cons (pv 1) pa_nil))))))
theorem sc_l_whole : FnScope ["_law_found"] ["_law_found"] (defScope st_l_whole) := ⟨rfl, rfl, rfl, by decide +kernel, rfl, by decide +kernel, by decide +kernel⟩
theorem d_l_whole {P : Program} {w : World} {K : PySem.W.Frag} {mg : Str → Option Value} {base : Heap} {k : Nat} 
    (z_int : mg "int" = none) (z_isinstance : mg "isinstance" = none) (z_bool : mg "bool" = none)
    (f : Addr) (cdv : Value) (A : Around) (outer : List Env) (s : Shared) (H : Hp) (E : XK) (hr : Room k (A.deeper (envOfC "_law_whole" (defScope st_l_whole) s.heap.objs.size f cdv))) :
    PSs (cxOf (L2.CX P w) P w K mg base ["_law_found"] "_law_whole" (defScope st_l_whole) f cdv A outer s H E) (defBody st_l_whole) (t_l_whole K E) :=
  (pss_one (ps_ret (pe_and (pe_callB call_isi rfl z_isinstance (by decide +kernel) (pa_cons (pv 0) (pa_cons (pe_bltn (v := .ty "int") rfl z_int boot_int rfl) pa_nil))) (pe_one (pe_not (pe_callB call_isi rfl z_isinstance (by decide +kernel) (pa_cons (pv 0) (pa_cons (pe_bltn (v := .ty "bool") rfl z_bool boot_bool rfl) pa_nil))))))))
theorem sc_l_cell_at : FnScope ["_law_script", "_law_k"] ["_law_script", "_law_k"] (defScope st_l_cell_at) := ⟨rfl, rfl, rfl, by decide +kernel, rfl, by decide +kernel, by decide +kernel⟩
theorem d_l_cell_at {P : Program} {w : World} {K : PySem.W.Frag} {mg : Str → Option Value} {base : Heap} {k : Nat} 
    (z_len : mg "len" = none)
    (f : Addr) (cdv : Value) (A : Around) (outer : List Env) (s : Shared) (H : Hp) (E : XK) (hr : Room k (A.deeper (envOfC "_law_cell_at" (defScope st_l_cell_at) s.heap.objs.size f cdv))) :
    PSs (cxOf (L2.CX P w) P w K mg base ["_law_script", "_law_k"] "_law_cell_at" (defScope st_l_cell_at) f cdv A outer s H E) (defBody st_l_cell_at) (t_l_cell_at K E) :=
  (pss_cons (ps_if (pt_cmpR oLt (pv 1) (pe_callB cLen rfl z_len boot_len (pa_cons (pv 0) pa_nil)) (nomark _)) (pss_one (ps_ret (pe_ix ix_list (pv 0) (pv 1) (fun _ _ => rfl)))) pss_nil)
    (pss_one (ps_ret pe_int)))
theorem sc_l_number_by : FnScope ["_law_cell"] ["_law_cell"] (defScope st_l_number_by) := ⟨rfl, rfl, rfl, by decide +kernel, rfl, by decide +kernel, by decide +kernel⟩
theorem d_l_number_by {P : Program} {w : World} {K : PySem.W.Frag} {mg : Str → Option Value} {base : Heap} {k : Nat} 
    
    (f : Addr) (cdv : Value) (A : Around) (outer : List Env) (s : Shared) (H : Hp) (E : XK) (hr : Room k (A.deeper (envOfC "_law_number_by" (defScope st_l_number_by) s.heap.objs.size f cdv))) :
    PSs (cxOf (L2.CX P w) P w K mg base ["_law_cell"] "_law_number_by" (defScope st_l_number_by) f cdv A outer s H E) (defBody st_l_number_by) (t_l_number_by  E) :=
  (pss_cons (ps_if (pt_cmpR op_eq (pe_op oMod (pv 0) pe_int) pe_int (nomark _)) (pss_one (ps_ret (pe_op oMulW (pe_op oMulW (pe_op oMul (pe_op oSub (pe_op oMod (pe_op oDiv (pv 0) pe_int) pe_int) pe_int) (pe_op oPow pe_int pe_int)) (pe_op oPow pe_int pe_int)) (pe_op oPow pe_int pe_int)))) pss_nil)
    (pss_cons (ps_if (pt_cmpR op_eq (pe_op oMod (pv 0) pe_int) pe_int (nomark _)) (pss_one (ps_ret (pe_op oSub (pe_op oMod (pe_op oDiv (pv 0) pe_int) (pe_op oAdd (pe_op oMul pe_int (pe_op oPow pe_int pe_int)) pe_int)) (pe_op oPow pe_int pe_int)))) pss_nil)
    (pss_cons (ps_if (pt_cmpR op_eq (pe_op oMod (pv 0) pe_int) pe_int (nomark _)) (pss_one (ps_ret (pe_op oSub (pe_op oMod (pe_op oDiv (pv 0) pe_int) pe_int) pe_int))) pss_nil)
    (pss_one (ps_ret (pe_op oSub (pe_op oMod (pe_op oDiv (pv 0) pe_int) pe_int) pe_int))))))
theorem sc_l_row_by : FnScope ["_law_cell", "_law_other", "_law_size", "_law_k"] ["_law_cell", "_law_other", "_law_size"] (defScope st_l_row_by) := ⟨rfl, rfl, rfl, by decide +kernel, rfl, by decide +kernel, by decide +kernel⟩
theorem d_l_row_by {P : Program} {w : World} {K : PySem.W.Frag} {mg : Str → Option Value} {base : Heap} {k : Nat} {s_l_number_by : Sp}
    {k_l_number_by : Nat} (c_l_number_by : Cal P w K mg base k_l_number_by "_law_number_by" ["_law_cell"] s_l_number_by) (h_l_number_by : k_l_number_by ≤ k) (z_range : mg "range" = none)
    (f : Addr) (cdv : Value) (A : Around) (outer : List Env) (s : Shared) (H : Hp) (E : XK) (hr : Room k (A.deeper (envOfC "_law_row_by" (defScope st_l_row_by) s.heap.objs.size f cdv))) :
    PSs (cxOf (L2.CX P w) P w K mg base ["_law_cell", "_law_other", "_law_size", "_law_k"] "_law_row_by" (defScope st_l_row_by) f cdv A outer s H E) (defBody st_l_row_by) (t_l_row_by s_l_number_by E) :=
  (pss_cons (ps_if (pt_cmpR op_eq (pe_op oMod (pv 0) pe_int) pe_int (nomark _)) (pss_one (ps_ret (pe_lc (own := [("_law_k", 3)]) (g := gName 3) (tt := tYes) (te := (tCall s_l_number_by [] E0 (tCons (tOp nAdd (tVar 1) (tOp nMul (tC (.int 4)) (tOp nDiv (tVar 3) (tOp nAdd (tC (.int 1)) (tOp nMod (tOp nDiv (tVar 0) (tC (.int 3))) (tC (.int 9))))))) tNil))) rfl sc_l_row_by.nd (pi_range1 rfl z_range (pa_cons (pv 2) pa_nil)) (blkOk_by (own := [("_law_k", 3)]) (N := ["_law_cell", "_law_other", "_law_size", "_law_k"]) (sc := defScope st_l_row_by) (by decide +kernel)) (fun _ _ _ _ _ => pg_name (i := 3) sc_l_row_by.nd rfl (Or.inl rfl)) (fun _ _ _ _ _ => pts_nil) (fun _ _ _ _ _ => (pe_callC c_l_number_by hr (by omega) rfl passL (pa_cons (pe_op oAdd (pv 1) (pe_op oMul pe_int (pe_op oDiv (pv 3) (pe_op oAdd pe_int (pe_op oMod (pe_op oDiv (pv 0) pe_int) pe_int))))) pa_nil)))))) pss_nil)
    (pss_one (ps_ret (pe_lc (own := [("_law_k", 3)]) (g := gName 3) (tt := tYes) (te := (tCall s_l_number_by [] E0 (tCons (tOp nAdd (tOp nAdd (tOp nDiv (tVar 0) (tC (.int 3))) (tOp nMul (tOp nMul (tVar 1) (tVar 3)) (tVar 3))) (tOp nMul (tC (.int 13)) (tVar 3))) tNil))) rfl sc_l_row_by.nd (pi_range1 rfl z_range (pa_cons (pv 2) pa_nil)) (blkOk_by (own := [("_law_k", 3)]) (N := ["_law_cell", "_law_other", "_law_size", "_law_k"]) (sc := defScope st_l_row_by) (by decide +kernel)) (fun _ _ _ _ _ => pg_name (i := 3) sc_l_row_by.nd rfl (Or.inl rfl)) (fun _ _ _ _ _ => pts_nil) (fun _ _ _ _ _ => (pe_callC c_l_number_by hr (by omega) rfl passL (pa_cons (pe_op oAdd (pe_op oAdd (pe_op oDiv (pv 0) pe_int) (pe_op oMul (pe_op oMul (pv 1) (pv 3)) (pv 3))) (pe_op oMul pe_int (pv 3))) pa_nil)))))))
theorem sc_law_k03 : FnScope ["_law_script", "_law_size", "_law_row", "_law_low", "_law_high", "_law_due", "_law_number", "_law_found", "_law_many", "_law_begin", "_law_ending"] ["_law_script"] (defScope st_law_k03) := ⟨rfl, rfl, rfl, by decide +kernel, rfl, by decide +kernel, by decide +kernel⟩
theorem d_law_k03 {P : Program} {w : World} {K : PySem.W.Frag} {mg : Str → Option Value} {base : Heap} {k : Nat} {s_l_cell_at : Sp} {s_l_row_by : Sp} {s_made : Sp} {s_total : Sp} {s_l_whole : Sp} {s_l_number_by : Sp} {s_even : Sp}
    {k_l_cell_at : Nat} (c_l_cell_at : Cal P w K mg base k_l_cell_at "_law_cell_at" ["_law_script", "_law_k"] s_l_cell_at) (h_l_cell_at : k_l_cell_at ≤ k) {k_l_row_by : Nat} (c_l_row_by : Cal P w K mg base k_l_row_by "_law_row_by" ["_law_cell", "_law_other", "_law_size"] s_l_row_by) (h_l_row_by : k_l_row_by ≤ k) {k_made : Nat} (c_made : Cal P w K mg base k_made "made" ["numbers"] s_made) (h_made : k_made ≤ k) {k_total : Nat} (c_total : Cal P w K mg base k_total "total" ["book", "low", "high"] s_total) (h_total : k_total ≤ k) {k_l_whole : Nat} (c_l_whole : Cal P w K mg base k_l_whole "_law_whole" ["_law_found"] s_l_whole) (h_l_whole : k_l_whole ≤ k) {k_l_number_by : Nat} (c_l_number_by : Cal P w K mg base k_l_number_by "_law_number_by" ["_law_cell"] s_l_number_by) (h_l_number_by : k_l_number_by ≤ k) {k_even : Nat} (c_even : Cal P w K mg base k_even "even" ["many", "number"] s_even) (h_even : k_even ≤ k) (z_list : mg "list" = none)
    (f : Addr) (cdv : Value) (A : Around) (outer : List Env) (s : Shared) (H : Hp) (E : XK) (hr : Room k (A.deeper (envOfC "law" (defScope st_law_k03) s.heap.objs.size f cdv))) :
    PSs (cxOf (L2.CX P w) P w K mg base ["_law_script", "_law_size", "_law_row", "_law_low", "_law_high", "_law_due", "_law_number", "_law_found", "_law_many", "_law_begin", "_law_ending"] "law" (defScope st_law_k03) f cdv A outer s H E) (defBody st_law_k03) (t_law_k03 K s_l_cell_at s_l_row_by s_made s_total s_l_whole s_l_number_by s_even E) :=
  (pss_cons (ps_set (i := 1) sc_law_k03.nd rfl (Or.inl rfl) (pe_op oMod (pe_callC c_l_cell_at hr (by omega) rfl pass_own (pa_cons (pv 0) (pa_cons pe_int pa_nil))) pe_int))
    (pss_cons (ps_if (pt_cmpR op_eq (pe_op oMod (pe_op oDiv (pe_callC c_l_cell_at hr (by omega) rfl pass_own (pa_cons (pv 0) (pa_cons pe_int pa_nil))) pe_int) pe_int) pe_int (nomark _)) (pss_one (ps_set (i := 1) sc_law_k03.nd rfl (Or.inl rfl) (pe_op oMod (pe_op oDiv (pe_callC c_l_cell_at hr (by omega) rfl pass_own (pa_cons (pv 0) (pa_cons pe_int pa_nil))) pe_int) pe_int))) pss_nil)
    (pss_cons (ps_set (i := 2) sc_law_k03.nd rfl (Or.inl rfl) (pe_callC c_l_row_by hr (by omega) rfl pass_own (pa_cons (pe_callC c_l_cell_at hr (by omega) rfl pass_own (pa_cons (pv 0) (pa_cons pe_int pa_nil))) (pa_cons (pe_callC c_l_cell_at hr (by omega) rfl pass_own (pa_cons (pv 0) (pa_cons pe_int pa_nil))) (pa_cons (pv 1) pa_nil)))))
    (pss_cons (ps_set (i := 3) sc_law_k03.nd rfl (Or.inl rfl) (pe_op oMod (pe_callC c_l_cell_at hr (by omega) rfl pass_own (pa_cons (pv 0) (pa_cons pe_int pa_nil))) (pe_op oAdd (pv 1) pe_int)))
    (pss_cons (ps_set (i := 4) sc_law_k03.nd rfl (Or.inl rfl) (pe_op oAdd (pv 3) (pe_op oMod (pe_callC c_l_cell_at hr (by omega) rfl pass_own (pa_cons (pv 0) (pa_cons pe_int pa_nil))) (pe_op oAdd (pe_op oSub (pv 1) (pv 3)) pe_int))))
    (pss_cons (ps_set (i := 5) sc_law_k03.nd rfl (Or.inl rfl) pe_int)
    (pss_cons (ps_for (passes_of rfl) rfl (pi_list (pe_slice sl_list (pv 2) (po_some (pv 3)) (po_some (pv 4)))) (pg_name (i := 6) sc_law_k03.nd rfl (Or.inl rfl))
    (pss_one (ps_set (i := 5) sc_law_k03.nd rfl (Or.inl rfl) (pe_op oAdd (pv 5) (pv 6)))))
    (pss_cons (ps_set (i := 7) sc_law_k03.nd rfl (Or.inl rfl) (pe_callC c_total hr (by omega) rfl pass_own (pa_cons (pe_callC c_made hr (by omega) rfl pass_own (pa_cons (pe_callTy cList rfl z_list (by decide +kernel) (pa_cons (pv 2) pa_nil)) pa_nil)) (pa_cons (pv 3) (pa_cons (pv 4) pa_nil)))))
    (pss_cons (ps_if (PW.pt (pw_or (pt_not (pt_val (pe_callC c_l_whole hr (by omega) rfl pass_own (pa_cons (pv 7) pa_nil)))) (pw_or1 (pt_cmpR op_ne (pv 7) (pv 5) (nomark _))))) (pss_one (ps_ret pe_bl)) pss_nil)
    (pss_cons (ps_set (i := 8) sc_law_k03.nd rfl (Or.inl rfl) (pe_op oMod (pe_callC c_l_cell_at hr (by omega) rfl pass_own (pa_cons (pv 0) (pa_cons pe_int pa_nil))) (pe_op oAdd (pe_op oPow pe_int pe_int) pe_int)))
    (pss_cons (ps_set (i := 9) sc_law_k03.nd rfl (Or.inl rfl) (pe_op oMod (pe_op oDiv (pe_callC c_l_cell_at hr (by omega) rfl pass_own (pa_cons (pv 0) (pa_cons pe_int pa_nil))) pe_int) (pe_op oAdd (pv 8) pe_int)))
    (pss_cons (ps_if (pt_cmpR op_eq (pe_op oMod (pe_callC c_l_cell_at hr (by omega) rfl pass_own (pa_cons (pv 0) (pa_cons pe_int pa_nil))) pe_int) pe_int (nomark _)) (pss_one (ps_set (i := 9) sc_law_k03.nd rfl (Or.inl rfl) pe_int)) pss_nil)
    (pss_cons (ps_set (i := 10) sc_law_k03.nd rfl (Or.inl rfl) (pe_op oAdd (pv 9) (pe_op oMod (pe_op oDiv (pe_callC c_l_cell_at hr (by omega) rfl pass_own (pa_cons (pv 0) (pa_cons pe_int pa_nil))) pe_int) (pe_op oAdd (pe_op oSub (pv 8) (pv 9)) pe_int))))
    (pss_cons (ps_if (pt_cmpR op_eq (pe_op oMod (pe_callC c_l_cell_at hr (by omega) rfl pass_own (pa_cons (pv 0) (pa_cons pe_int pa_nil))) pe_int) pe_int (nomark _)) (pss_one (ps_set (i := 10) sc_law_k03.nd rfl (Or.inl rfl) (pv 8))) pss_nil)
    (pss_cons (ps_set (i := 6) sc_law_k03.nd rfl (Or.inl rfl) (pe_callC c_l_number_by hr (by omega) rfl pass_own (pa_cons (pe_callC c_l_cell_at hr (by omega) rfl pass_own (pa_cons (pv 0) (pa_cons pe_int pa_nil))) pa_nil)))
    (pss_cons (ps_set (i := 7) sc_law_k03.nd rfl (Or.inl rfl) (pe_callC c_total hr (by omega) rfl pass_own (pa_cons (pe_callC c_even hr (by omega) rfl pass_own (pa_cons (pv 8) (pa_cons (pv 6) pa_nil))) (pa_cons (pv 9) (pa_cons (pv 10) pa_nil)))))
    (pss_one (ps_ret (pe_and (pe_callC c_l_whole hr (by omega) rfl pass_own (pa_cons (pv 7) pa_nil)) (pe_one (pe_cmpR op_eq (pv 7) (pe_op oMul (pv 6) (pe_op oSub (pv 10) (pv 9))) (nomark _))))))))))))))))))))))
end RB
namespace RB
open PySem PySem.Spec PyProof.Rows L2
theorem run_k03 {P : Program} {w : World} {K : PySem.W.Frag} {mg : Str → Option Value} {base : Heap} {C C_OutOfRow C_NoRow : Addr} {fa : Addr} {fd : FuncData}
    (M_Tree : MkAt K mg "Tree" "Tree.__init__" C st_Tree_init ["self", "many", "total", "least", "more", "left", "right"])
    (X : Tx K C)
    (D_check_stretch : DefAt K mg "check_stretch" st_check_stretch ["book", "low", "high"])
    (D_even_tree : DefAt K mg "even_tree" st_even_tree ["many", "number"])
    (D_joined : DefAt K mg "joined" st_joined ["left", "right", "more"])
    (D_tree_of : DefAt K mg "tree_of" st_tree_of ["numbers"])
    (D_total_in : DefAt K mg "total_in" st_total_in ["tree", "low", "high"])
    (D_total : DefAt K mg "total" st_total ["book", "low", "high"])
    (D_made : DefAt K mg "made" st_made ["numbers"])
    (D_even : DefAt K mg "even" st_even ["many", "number"])
    (D_l_whole : DefAt K mg "_law_whole" st_l_whole ["_law_found"])
    (D_l_cell_at : DefAt K mg "_law_cell_at" st_l_cell_at ["_law_script", "_law_k"])
    (D_l_number_by : DefAt K mg "_law_number_by" st_l_number_by ["_law_cell"])
    (D_l_row_by : DefAt K mg "_law_row_by" st_l_row_by ["_law_cell", "_law_other", "_law_size"])
    (x_OutOfRow : ExcAt K mg "OutOfRow" C_OutOfRow)
    (x_NoRow : ExcAt K mg "NoRow" C_NoRow)
    (n_MOST_GIVEN : ∃ t, mg "MOST_GIVEN" = some (.int 1000 t))
    (n_MOST_PLACES : ∃ t, mg "MOST_PLACES" = some (.int 1000000000000 t))
    (z_min : mg "min" = none)
    (z_len : mg "len" = none)
    (z_max : mg "max" = none)
    (z_int : mg "int" = none)
    (z_isinstance : mg "isinstance" = none)
    (z_bool : mg "bool" = none)
    (z_range : mg "range" = none)
    (z_list : mg "list" = none)
    (F : Fun K "law" "law" st_law_k03 fa fd) : FnOk P w K mg base (L2.CX P w) 16 fa fd ["_law_script"] (sp_law K) := by
  have c_check_stretch : Cal P w K mg base 1 "check_stretch" ["book", "low", "high"] (sp_check_stretch C C_OutOfRow) := D_check_stretch.cal (k := 0) sc_check_stretch (fun vs H Q E h => by obtain ⟨_, _, _, _, rfl, _⟩ := h; rfl) (t_check_stretch K C_OutOfRow) (fun f cdv A outer s H E hr => d_check_stretch x_OutOfRow f cdv A outer s H E hr) (p_check_stretch X)
  have m_Tree : CalMk P w K mg base 1 "Tree" C ["self", "many", "total", "least", "more", "left", "right"] (sp_Tree C) := M_Tree.cal (n := 0) sc_Tree_init (fun vs H Q E h => by obtain ⟨_, _, _, _, _, _, _, _, rfl, _⟩ := h; rfl) (t_Tree_init K) (fun f cdv A outer s H E hr => d_Tree_init f cdv A outer s H E hr) (p_Tree_init X)
  have c_even_tree : Cal P w K mg base 3 "even_tree" ["many", "number"] (sp_even_tree C) := D_even_tree.cal (k := 2) sc_even_tree (fun vs H Q E h => by obtain ⟨_, _, rfl, _⟩ := h; rfl) (t_even_tree C (sp_Tree C)) (fun f cdv A outer s H E hr => d_even_tree m_Tree (by omega) f cdv A outer s H E hr) p_even_tree
  have c_joined : Cal P w K mg base 3 "joined" ["left", "right", "more"] (sp_joined C) := D_joined.cal (k := 2) sc_joined (fun vs H Q E h => by obtain ⟨_, _, _, _, _, rfl, _⟩ := h; rfl) (t_joined K C (sp_Tree C)) (fun f cdv A outer s H E hr => d_joined m_Tree (by omega) z_min f cdv A outer s H E hr) (p_joined X)
  have c_tree_of : ∀ n, Cal P w K mg base (n + 3) "tree_of" ["numbers"] (sp_tree_of K C n) := fun n => by
    induction n with
    | zero => exact D_tree_of.none no_tree_of
    | succ n ih => exact (D_tree_of.cal (k := n + 3) sc_tree_of (fun vs H Q E h => by obtain ⟨_, _, _, rfl, _⟩ := h; rfl) (t_tree_of K (sp_even_tree C) (sp_tree_of K C n) (sp_joined C)) (fun f cdv A outer s H E hr => d_tree_of c_even_tree (by omega) ih (Nat.le_refl _) c_joined (by omega) z_len f cdv A outer s H E hr) p_tree_of).mono (by omega)
  have c_total_in : ∀ n, Cal P w K mg base (n + 0) "total_in" ["tree", "low", "high"] (sp_total_in C n) := fun n => by
    induction n with
    | zero => exact D_total_in.none no_total_in
    | succ n ih => exact (D_total_in.cal (k := n + 0) sc_total_in (fun vs H Q E h => by obtain ⟨_, _, _, _, rfl, _⟩ := h; rfl) (t_total_in K (sp_total_in C n)) (fun f cdv A outer s H E hr => d_total_in ih (Nat.le_refl _) z_max z_min f cdv A outer s H E hr) (p_total_in X)).mono (by omega)
  have c_total : Cal P w K mg base 12 "total" ["book", "low", "high"] (sp_total C C_OutOfRow 11) := D_total.cal (k := 11) sc_total (fun vs H Q E h => by obtain ⟨_, _, _, _, rfl, _⟩ := h; rfl) (t_total (sp_check_stretch C C_OutOfRow) (sp_total_in C 11)) (fun f cdv A outer s H E hr => d_total c_check_stretch (by omega) (c_total_in 11) (by omega) f cdv A outer s H E hr) p_total
  have c_made : Cal P w K mg base 15 "made" ["numbers"] (sp_made K C C_NoRow) := D_made.cal (k := 14) sc_made (fun vs H Q E h => by obtain ⟨_, _, rfl, _⟩ := h; rfl) (t_made K C_NoRow (sp_tree_of K C 11)) (fun f cdv A outer s H E hr => d_made (c_tree_of 11) (by omega) x_NoRow n_MOST_GIVEN z_len f cdv A outer s H E hr) p_made
  have c_even : Cal P w K mg base 4 "even" ["many", "number"] (sp_even C C_NoRow) := D_even.cal (k := 3) sc_even (fun vs H Q E h => by obtain ⟨_, _, rfl, _⟩ := h; rfl) (t_even C_NoRow (sp_even_tree C)) (fun f cdv A outer s H E hr => d_even c_even_tree (by omega) x_NoRow n_MOST_PLACES f cdv A outer s H E hr) p_even
  have c_l_whole : Cal P w K mg base 1 "_law_whole" ["_law_found"] sp_l_whole := D_l_whole.cal (k := 0) sc_l_whole (fun vs H Q E h => by obtain ⟨_, rfl, _⟩ := h; rfl) (t_l_whole K) (fun f cdv A outer s H E hr => d_l_whole z_int z_isinstance z_bool f cdv A outer s H E hr) p_l_whole
  have c_l_cell_at : Cal P w K mg base 1 "_law_cell_at" ["_law_script", "_law_k"] (sp_l_cell_at K) := D_l_cell_at.cal (k := 0) sc_l_cell_at (fun vs H Q E h => by obtain ⟨_, _, _, rfl, _⟩ := h; rfl) (t_l_cell_at K) (fun f cdv A outer s H E hr => d_l_cell_at z_len f cdv A outer s H E hr) p_l_cell_at
  have c_l_number_by : Cal P w K mg base 1 "_law_number_by" ["_law_cell"] sp_l_number_by := D_l_number_by.cal (k := 0) sc_l_number_by (fun vs H Q E h => by obtain ⟨_, rfl, _⟩ := h; rfl) (t_l_number_by ) (fun f cdv A outer s H E hr => d_l_number_by f cdv A outer s H E hr) p_l_number_by
  have c_l_row_by : Cal P w K mg base 2 "_law_row_by" ["_law_cell", "_law_other", "_law_size"] sp_l_row_by := D_l_row_by.cal (k := 1) sc_l_row_by (fun vs H Q E h => by obtain ⟨_, _, _, rfl, _⟩ := h; rfl) (t_l_row_by sp_l_number_by) (fun f cdv A outer s H E hr => d_l_row_by c_l_number_by (by omega) z_range f cdv A outer s H E hr) p_l_row_by
  exact RB.Fun.fn F (n := 15) sc_law_k03 (fun vs H Q E h => by obtain ⟨_, _, rfl, _⟩ := h; rfl) (t_law_k03 K (sp_l_cell_at K) sp_l_row_by (sp_made K C C_NoRow) (sp_total C C_OutOfRow 11) sp_l_whole sp_l_number_by (sp_even C C_NoRow)) (fun f cdv A outer s H E hr => d_law_k03 c_l_cell_at (by omega) c_l_row_by (by omega) c_made (by omega) c_total (by omega) c_l_whole (by omega) c_l_number_by (by omega) c_even (by omega) z_list f cdv A outer s H E hr) (p_law_k03 X)
end RB
open PySem PySem.W PyProof.Rows
set_option maxRecDepth 100000 in
set_option maxHeartbeats 0 in
theorem PySem.Challenge.cw_rangebook_k03_totals_holds : PySem.Challenge.rw_rangebook_k03_totals.Holds := by
  w_on; o_law; k_head; (case hw => w_witness2)
  k_fill
  refine RB.walk (l := PySem.Challenge.rw_rangebook_k03_totals) (k := 16) rfl rfl ⟨rfl, by decide, by decide⟩ (fun w h Y => PySem.W.kIn_of Y) ?F
  case F =>
    intro w mg fa h KX G hmg GX
    refine' RB.law_mk (st := RB.st_law_k03) KX G hmg ?hla ?hll ?hlc ?hlk ?hlb ?hrun
    (case hla => k_is); (case hll => k_is); (case hlc => k_is); (case hlk => k_is); (case hlb => exact fun s v => .of_eq rfl)
    case hrun =>
      intro base fd F
      refine' RB.run_k03 ?h_M_Tree ?h_X ?h_D_check_stretch ?h_D_even_tree ?h_D_joined ?h_D_tree_of ?h_D_total_in ?h_D_total ?h_D_made ?h_D_even ?h_D_l_whole ?h_D_l_cell_at ?h_D_l_number_by ?h_D_l_row_by ?h_x_OutOfRow ?h_x_NoRow ?h_n_MOST_GIVEN ?h_n_MOST_PLACES ?h_z_min ?h_z_len ?h_z_max ?h_z_int ?h_z_isinstance ?h_z_bool ?h_z_range ?h_z_list F
      (case h_M_Tree => (refine' RB.MkAt.mk' KX G ?h0aC ?h0a ?h0i ?h0l ?h0c ?h0k ?h0mk ?h0kc (fun _ _ _ _ _ _ us hl => match us, hl with | [_, _, _, _, _, _, _], _ => rfl); (case h0aC => k_is); (case h0a => k_is); (case h0i => k_is); (case h0l => k_is); (case h0c => k_is); (case h0k => k_is); (case h0mk => k_is); (case h0kc => k_is)))
      (case h_X => (refine' RB.Tx.mk' ?h1a1 ?h1a2 ?h1a3 ?h1a4 ?h1b1 ?h1b2 ?h1b3 ?h1b4 ?h1b5 ?h1b6; (case h1a1 => k_is); (case h1a2 => k_is); (case h1a3 => k_is); (case h1a4 => k_is); (case h1b1 => k_is); (case h1b2 => k_is); (case h1b3 => k_is); (case h1b4 => k_is); (case h1b5 => k_is); (case h1b6 => k_is)))
      (case h_D_check_stretch => (refine' RB.DefAt.mk' KX G ?h2a ?h2l ?h2c ?h2k (fun _ _ _ _ _ _ us hl => match us, hl with | [_, _, _], _ => rfl); (case h2a => k_is); (case h2l => k_is); (case h2c => k_is); (case h2k => k_is)))
      (case h_D_even_tree => (refine' RB.DefAt.mk' KX G ?h3a ?h3l ?h3c ?h3k (fun _ _ _ _ _ _ us hl => match us, hl with | [_, _], _ => rfl); (case h3a => k_is); (case h3l => k_is); (case h3c => k_is); (case h3k => k_is)))
      (case h_D_joined => (refine' RB.DefAt.mk' KX G ?h4a ?h4l ?h4c ?h4k (fun _ _ _ _ _ _ us hl => match us, hl with | [_, _, _], _ => rfl); (case h4a => k_is); (case h4l => k_is); (case h4c => k_is); (case h4k => k_is)))
      (case h_D_tree_of => (refine' RB.DefAt.mk' KX G ?h5a ?h5l ?h5c ?h5k (fun _ _ _ _ _ _ us hl => match us, hl with | [_], _ => rfl); (case h5a => k_is); (case h5l => k_is); (case h5c => k_is); (case h5k => k_is)))
      (case h_D_total_in => (refine' RB.DefAt.mk' KX G ?h6a ?h6l ?h6c ?h6k (fun _ _ _ _ _ _ us hl => match us, hl with | [_, _, _], _ => rfl); (case h6a => k_is); (case h6l => k_is); (case h6c => k_is); (case h6k => k_is)))
      (case h_D_total => (refine' RB.DefAt.mk' KX G ?h7a ?h7l ?h7c ?h7k (fun _ _ _ _ _ _ us hl => match us, hl with | [_, _, _], _ => rfl); (case h7a => k_is); (case h7l => k_is); (case h7c => k_is); (case h7k => k_is)))
      (case h_D_made => (refine' RB.DefAt.mk' KX G ?h8a ?h8l ?h8c ?h8k (fun _ _ _ _ _ _ us hl => match us, hl with | [_], _ => rfl); (case h8a => k_is); (case h8l => k_is); (case h8c => k_is); (case h8k => k_is)))
      (case h_D_even => (refine' RB.DefAt.mk' KX G ?h9a ?h9l ?h9c ?h9k (fun _ _ _ _ _ _ us hl => match us, hl with | [_, _], _ => rfl); (case h9a => k_is); (case h9l => k_is); (case h9c => k_is); (case h9k => k_is)))
      (case h_D_l_whole => (refine' RB.DefAt.mk' KX G ?h10a ?h10l ?h10c ?h10k (fun _ _ _ _ _ _ us hl => match us, hl with | [_], _ => rfl); (case h10a => k_is); (case h10l => k_is); (case h10c => k_is); (case h10k => k_is)))
      (case h_D_l_cell_at => (refine' RB.DefAt.mk' KX G ?h11a ?h11l ?h11c ?h11k (fun _ _ _ _ _ _ us hl => match us, hl with | [_, _], _ => rfl); (case h11a => k_is); (case h11l => k_is); (case h11c => k_is); (case h11k => k_is)))
      (case h_D_l_number_by => (refine' RB.DefAt.mk' KX G ?h12a ?h12l ?h12c ?h12k (fun _ _ _ _ _ _ us hl => match us, hl with | [_], _ => rfl); (case h12a => k_is); (case h12l => k_is); (case h12c => k_is); (case h12k => k_is)))
      (case h_D_l_row_by => (refine' RB.DefAt.mk' KX G ?h13a ?h13l ?h13c ?h13k (fun _ _ _ _ _ _ us hl => match us, hl with | [_, _, _], _ => rfl); (case h13a => k_is); (case h13l => k_is); (case h13c => k_is); (case h13k => k_is)))
      (case h_x_OutOfRow => (refine' RB.ExcAt.mk' KX G ?h14a ?h14q ?h14k ?h14b ?h14t; (case h14a => k_is); (case h14q => k_exc); (case h14k => k_is); (case h14b => k_is); (case h14t => k_is)))
      (case h_x_NoRow => (refine' RB.ExcAt.mk' KX G ?h15a ?h15q ?h15k ?h15b ?h15t; (case h15a => k_is); (case h15q => k_exc); (case h15k => k_is); (case h15b => k_is); (case h15t => k_is)))
      (case h_n_MOST_GIVEN => (refine' ⟨_, (PySem.W.mg_of KX G ?h16a).trans ?h16b⟩; (case h16a => k_is); (case h16b => rfl)))
      (case h_n_MOST_PLACES => (exact RB.num_of GX (by first | exact .head _ | exact .tail _ (.head _) | exact .tail _ (.tail _ (.head _)))))
      (case h_z_min => (refine' PySem.W.mg_none_of KX G ?h18a; (case h18a => k_is)))
      (case h_z_len => (refine' PySem.W.mg_none_of KX G ?h19a; (case h19a => k_is)))
      (case h_z_max => (refine' PySem.W.mg_none_of KX G ?h20a; (case h20a => k_is)))
      (case h_z_int => (refine' PySem.W.mg_none_of KX G ?h21a; (case h21a => k_is)))
      (case h_z_isinstance => (refine' PySem.W.mg_none_of KX G ?h22a; (case h22a => k_is)))
      (case h_z_bool => (refine' PySem.W.mg_none_of KX G ?h23a; (case h23a => k_is)))
      (case h_z_range => (refine' PySem.W.mg_none_of KX G ?h24a; (case h24a => k_is)))
      (case h_z_list => (refine' PySem.W.mg_none_of KX G ?h25a; (case h25a => k_is)))
