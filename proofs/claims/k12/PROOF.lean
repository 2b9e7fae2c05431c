import PyProof.Rows.All
import Wide.All
import OpenK.AllK
import Wide.FinOn
import PyProof.InstEq
import HandS.ForMost
import HandS.IsInst
import HandS.OwnEq
import HandS.SlotsOwn
import HandS.NamedTupSort
import HandS.Exc
import HandS.TryMany
import HandS.ExcField
import HandS.WordsExc
import HandS.ExcInit
import KE.RegKIsAll
import KE.RegKTryMore
import KE.KNestM
import HandS.MakeKw
import HandS.Defaults
import HandS.Wide
import HandS.Gcd
import Flt.RightSqrt
import KE.KEqSeq
import HandS.Walk
import HandS.EndTab
import PySem.Challenge.RW_areawalks_k12_whole_steps_judged
set_option Elab.async false
set_option linter.all false
set_option maxRecDepth 100000
set_option maxHeartbeats 4000000
/-! own operators of an instance, whatever stands on the right -/
namespace AWR
open PySem PySem.W PyProof.Rows Builtin
section
variable {prog : Program} {w : World} {A : Around} {E : Value → Shared → Prop} {s : Shared} {K : Frag} {x C f : Addr} {ox : Obj} {oD : Option Obj} {b tb : Value}
/-- x != b by object.__ne__, the own __eq__ behind it -/
theorem one_ne {Q : Value → Shared → Prop} (hu : A.units + 1 < cLine) (X : K.In s.heap) (iv : InstAt s.heap x ox C oD)
    (hne : findIn K (.ref C) "__ne__" = some (some (.builtin "object.__ne__"))) (hm : mroIn K C (.type "object") = some true)
    (hs : findIn K (.ref C) "__eq__" = some (some (.ref f))) (hf : isFn K (.ref f) = true)
    (h : wpAny (model prog w) A.in1 (call (.ref f) [.ref x, b]) (fun v s' => ∃ r, v = .bool r ∧ Q (.bool (!r)) s') E s) :
    wpAny (model prog w) A (tryCompare (.ref x) "__ne__" b) (fun r s' => ∃ v, r = some v ∧ Q v s') E s := by
  simp only [tryCompare]
  have lookN : Looks (model prog w) s.heap (specialOf (.ref x) "__ne__") (some (.builtin "object.__ne__")) := fun A Q E s' k q => wpAny_bind ((iv.type.keeps k).here ((looks_findIn (X.keeps k) hne).here q))
  have L2 : Looks (model prog w) s.heap (isInstance (.ref x) (.type "object")) true := iv.type.andThen (looks_mroIn X hm)
  refine wpAny_bind (NtL.csib lookN (by kernel_rfl) ?_)
  refine wpAny_call (codeAny_call_builtin (by decide +kernel) F.cmpEntry_ne (check_slot F.cmpKind_ne F.cmpSplit_ne L2 (F.cmpArgs_ne _ _) ?_))
  unfold Builtin.«object.__ne__»
  repeat (first
    | with_reducible refine wpAny_cRoomFor hu ?_
    | (refine wpAny_bind (m := callSpecialIfBound? (.ref x) (Str.ofString "__eq__") [b]) (ifBound_K X iv hs hf (wpAny_mono h (fun r s' hr => by
          obtain ⟨q, rfl, kq⟩ := hr
          repeat (first | exact ⟨_, rfl, wpAny_pure ⟨_, rfl, kq⟩⟩ | exact wpAny_pure ⟨_, rfl, kq⟩ | exact wpAny_truthy_bool ⟨_, rfl, kq⟩ | (refine wpAny_bind (m := truthy (.bool _)) (wpAny_truthy_bool ?_)) | wp_step)) fun _ _ e => e)))
    | wp_step)
theorem ne_K {Q : Value → Shared → Prop} (hu : A.units + 1 < cLine) (X : K.In s.heap) (iv : InstAt s.heap x ox C oD) (hb : Looks (model prog w) s.heap (typeOf b) tb) (hn : notFirst K C tb = true)
    (hne : findIn K (.ref C) "__ne__" = some (some (.builtin "object.__ne__"))) (hm : mroIn K C (.type "object") = some true)
    (hs : findIn K (.ref C) "__eq__" = some (some (.ref f))) (hf : isFn K (.ref f) = true)
    (h : wpAny (model prog w) A.in1 (call (.ref f) [.ref x, b]) (fun v s' => ∃ r, v = .bool r ∧ Q (.bool (!r)) s') E s) : wpAny (model prog w) A (richCompare .NotEq (.ref x) b) Q E s := by
  have cmp1 := one_ne (b := b) (Q := Q) hu X iv hne hm hs hf h
  unfold richCompare
  simp only [oneThing_ref]
  refine wpAny_holding (wpAny_bind (wpAny_cRoomFor (Nat.lt_of_succ_lt hu) ?_))
  refine wpAny_bind (iv.type.here (wpAny_bind (hb.here ?_)))
  split
  · rename_i q
    have e : subIn K tb (.ref C) = some false := by
      rcases Bool.or_eq_true_iff.mp hn with e | e
      · rw [beq_iff_eq.mp e] at q; simp at q
      · exact beq_iff_eq.mp e
    refine wpAny_bind ((looks_subIn X e).here ?_)
    simp only [Bool.false_eq_true, if_false]
    refine wpAny_bind (wpAny_mono cmp1 (fun r s' z => ?_) fun _ _ e => e)
    obtain ⟨v, rfl, kq⟩ := z
    exact wpAny_pure kq
  · refine wpAny_bind (wpAny_pure ?_)
    simp only [Bool.false_eq_true, if_false]
    refine wpAny_bind (wpAny_mono cmp1 (fun r s' z => ?_) fun _ _ e => e)
    obtain ⟨v, rfl, kq⟩ := z
    exact wpAny_pure kq
end
end AWR

set_option linter.all false
set_option maxRecDepth 100000
set_option maxHeartbeats 4000000
namespace AWR
open PySem PySem.W PyProof.Rows Builtin
section
variable {prog : Program} {w : World} {A : Around} {E : Value → Shared → Prop} {s : Shared} {K : Frag} {x C f : Addr} {ox : Obj} {od : Option Obj} {b tb : Value}
theorem tryM {nm : Str} {Q : Option Value → Shared → Prop} (X : K.In s.heap) (I : InstAt s.heap x ox C od) (hs : findIn K (.ref C) nm = some (some (.ref f))) (hf : isFn K (.ref f) = true)
    (h : wpAny (model prog w) A (call (.ref f) [.ref x, b]) (W.CmpBack fun v => Q (some v)) E s) : wpAny (model prog w) A (tryMethod (.ref x) nm b) Q E s := by
  unfold tryMethod
  refine wpAny_bind (special_fn X I hs (beq_iff_eq.mp hf) (wpAny_mono h (fun v s' hv => ?_) fun _ _ e => e))
  cases v <;> first | exact hv.elim | exact wpAny_pure hv
theorem fills_ty {M : Model} {h : Heap} {n nm : String} {r1 r2 : Option Value} (X : K.In h) (h1 : findIn K (.type n) (PySem.dunder nm) = some r1) (h2 : findIn K (.type n) (PySem.dunderR nm) = some r2) :
    Looks M h (fillsNumberSlot (.type n) nm) ((r1.isSome && !isSeqSlot r1) || (r2.isSome && !isSeqSlot r2)) := by
  unfold fillsNumberSlot
  exact (looks_findIn X h1).andThen ((looks_findIn X h2).andThen .now)
theorem inPy {M : Model} {h : Heap} {nm : String} (X : K.In h) (h1 : findIn K (.ref C) (PySem.dunder nm) = some (some (.ref f))) (h2 : findIn K (.ref C) (PySem.dunderR nm) = some none) :
    Looks M h (numberSlotInPython (.ref C) nm) true := by
  unfold numberSlotInPython
  refine (looks_findIn X h1).andThen ?_
  refine Looks.andThen (a := true) .now ?_
  refine (looks_findIn X h2).andThen ?_
  refine Looks.andThen (a := false) .now ?_
  exact .now
theorem binop_ty {op : Operator} {n : String} {r1 r2 : Option Value} {Q : Value → Shared → Prop} (X : K.In s.heap) (I : InstAt s.heap x ox C od) (hb : Looks (model prog w) s.heap (typeOf b) (.type n)) (hc : selfFirst K C = true)
    (hs : findIn K (.ref C) (PySem.dunder op.info.2) = some (some (.ref f))) (hr : findIn K (.ref C) (PySem.dunderR op.info.2) = some none) (hf : isFn K (.ref f) = true)
    (h1 : findIn K (.type n) (PySem.dunder op.info.2) = some r1) (h2 : findIn K (.type n) (PySem.dunderR op.info.2) = some r2) (hsub : subIn K (.type n) (.ref C) = some false)
    (h : wpAny (model prog w) A (call (.ref f) [.ref x, b]) (W.CmpBack Q) E s) : wpAny (model prog w) A (binaryOp op (.ref x) b) Q E s := by
  obtain ⟨cd, hcd, hm⟩ := any_some hc
  obtain ⟨rest, hm⟩ : ∃ rest, cd.mro = .ref C :: rest := by
    cases q : cd.mro with
    | nil => rw [q] at hm; cases hm
    | cons a r => rw [q] at hm; exact ⟨r, by rw [List.head?_cons] at hm; cases (beq_iff_eq.mp hm); rfl⟩
  unfold binaryOp
  refine wpAny_holding (wpAny_bind ?_)
  unfold binaryOp1
  refine wpAny_bind (I.type.here (wpAny_bind (hb.here (wpAny_bind ((fills_K X hcd hm hs).here ?_)))))
  rw [if_neg (by simp)]
  refine wpAny_bind ((fills_ty X h1 h2).here ?_)
  have last : wpAny (model prog w) A (tryMethod (.ref x) (PySem.dunder op.info.2) b) (fun r s' => ∃ v, r = some v ∧ Q v s') E s := tryM X I hs hf (wpAny_mono h (fun v s' hv => by cases v <;> first | exact hv.elim | exact ⟨_, rfl, hv⟩) fun _ _ e => e)
  cases hR : ((r1.isSome && !isSeqSlot r1) || (r2.isSome && !isSeqSlot r2)) with
  | false =>
    simp only [Bool.and_false, Bool.false_eq_true, if_false, Bool.false_and]
    refine wpAny_bind (wpAny_pure ?_)
    simp only [Bool.false_eq_true, if_false, if_true]
    refine wpAny_bind (m := tryMethod (.ref x) _ b) (wpAny_mono last (fun r s' z => ?_) fun _ _ e => e)
    obtain ⟨v, rfl, hq⟩ := z
    exact wpAny_pure (wpAny_pure hq)
  | true =>
    simp only [Bool.and_true, Bool.and_self, if_true]
    refine wpAny_bind ((looks_subIn X hsub).here ?_)
    simp only [Bool.false_eq_true, if_false]
    simp only [Bool.not_false, if_true]
    refine wpAny_bind ((inPy X hs hr).here ?_)
    simp only [if_true]
    refine wpAny_bind (m := numberSlotInPython (.type n) _) ?_
    refine wpAny_pure ?_
    simp only [Bool.not_false, if_true]
    refine wpAny_bind ((looks_findIn X h2).here ?_)
    refine wpAny_bind (m := tryMethod (.ref x) _ b) (wpAny_mono last (fun r s' z => ?_) fun _ _ e => e)
    obtain ⟨v, rfl, hq⟩ := z
    exact wpAny_pure (wpAny_pure hq)
end
end AWR

set_option linter.all false
set_option maxRecDepth 100000
set_option maxHeartbeats 4000000
namespace AW
open PySem PySem.Spec PyProof.Rows L2
section
variable {X : Cx} {CX : CXT} {k : Nat} {C f : Addr} {fd : FuncData} {ps : List Str} {sp : Sp} {E : XK}
/-- a def of the text runs, at some depth -/
theorem run_in {pins : List (Addr × Obj)} {σ : L2.St} {H : Hp} {s : Shared} {Q : VK} {us : List Value} {vs : List V} {A : Around} (F : FnOk X.prog X.w X.K X.mg X.base CX k f fd ps sp) (hr : Room k A) (fr : A.frames = X.A.frames) (hb : Binds X.K fd ps [])
    (hx : Passes CX X E) (iv : Inv X pins σ H s) (r : Vals vs us) (h : sp vs H Q E) : wpAny (model X.prog X.w) A (call (.ref f) us) (EP X pins σ Q) X.xe s := by
  have hl : (us ++ []).length = ps.length := by rw [List.append_nil, ← r.length]; exact F.len _ _ _ _ h
  have e0 : Env0 X.prog X.w X.K X.mg X.base A X.stack s H := by
    have e := iv.env0
    exact ⟨by rw [fr]; exact e.frames, e.mod, e.bs, e.bsz, e.funs, e.frf, e.hok, e.bare⟩
  refine wpAny_call (codeAny_mono (F.run A X.stack s H ⟨us, []⟩ us vs Q E hr e0 (by simpa using hb s us iv.kIn hl) r h) fun r s' kq => ?_)
  cases r with
  | error e => exact hx pins σ H s e s' iv kq
  | ok fl =>
    cases fl with
    | ret u => exact iv.after kq
    | next => exact False.elim kq
    | brk => exact False.elim kq
    | cont => exact False.elim kq
theorem rr (a : Addr) : L2.RelV (.ref a) (.ref a) := rfl
theorem in1_frames (A : Around) : A.in1.frames = A.frames := rfl
/-- the type of a value, read -/
theorem ty_looks {x : V} {u t : Value} {pins : List (Addr × Obj)} {σ : L2.St} {H : Hp} {s : Shared} (iv : Inv X pins σ H s) (rx : RelV x u) (ty : TyX X.K H x t) : PySem.W.Looks (model X.prog X.w) s.heap (typeOf u) t := by
  obtain ⟨P, Z, p, hx⟩ := kit_of iv rx ty
  exact Z.ty _ _ iv.kIn p
/-- what the class's == (own __eq__, object's __ne__) asks -/
structure EqC (K : PySem.W.Frag) (C f : Addr) : Prop where
  eq : PySem.W.findIn K (.ref C) "__eq__" = some (some (.ref f))
  fn : PySem.W.isFn K (.ref f) = true
  ne : PySem.W.findIn K (.ref C) "__ne__" = some (some (.builtin "object.__ne__"))
  mo : PySem.W.mroIn K C (.type "object") = some true
/-- a == b by the own __eq__ of a -/
def rEqO (K : PySem.W.Frag) (C : Addr) (sp : Sp) (E : XK) (g : Bool → Bool) : R2 := fun x y H Q => ∃ a dx fs t, x = .ref a ∧ H a = some (.ins C dx fs) ∧ TyX K H y t ∧ PySem.W.notFirst K C t = true ∧ sp [x, y] H (fun z H' => ∃ b, z = .bl b ∧ Q (.bl (g b)) H') E
theorem op_eqO (T : EqC X.K C f) (F : FnOk X.prog X.w X.K X.mg X.base CX k f fd ps sp) (hr : Room (k + 1) X.A) (hb : Binds X.K fd ps []) (hx : Passes CX X E) : OpR X (compareOp .Eq) (rEqO X.K C sp E id) := by
  intro pins s σ H x y v u Q iv rx ry kq
  obtain ⟨a, dx, fs, t, rfl, ha, ty, hn, q⟩ := kq
  cases rx
  obtain ⟨mo, jv, _⟩ := ins_get iv.hok ha
  obtain ⟨od, jv, _⟩ := jv.look
  obtain ⟨m, hF⟩ := iv.fr
  show wpAny (model X.prog X.w) X.A (richCompare .Eq (.ref a) u) (EP X pins σ Q) X.xe s
  refine PySem.W.cmp_K (op := .Eq) (tb := t) hr.units0 hF iv.ok.mod.kin jv (ty_looks iv ry ty) hn T.eq T.fn ?_
  refine wpAny_mono (run_in F (hr.mono (Nat.le_succ k)) rfl hb hx iv (.cons (rr a) (.cons ry .nil)) q) (fun z s' h => ?_) fun _ _ z => z
  obtain ⟨z', H', I', rz, b, ez, qz⟩ := h
  subst ez
  cases rz
  exact ⟨.bl b, H', I', rfl, qz⟩
theorem op_neO (T : EqC X.K C f) (F : FnOk X.prog X.w X.K X.mg X.base CX k f fd ps sp) (hr : Room (k + 1) X.A) (hb : Binds X.K fd ps []) (hx : Passes CX X E) : OpR X (compareOp .NotEq) (rEqO X.K C sp E not) := by
  intro pins s σ H x y v u Q iv rx ry kq
  obtain ⟨a, dx, fs, t, rfl, ha, ty, hn, q⟩ := kq
  cases rx
  obtain ⟨mo, jv, _⟩ := ins_get iv.hok ha
  obtain ⟨od, jv, _⟩ := jv.look
  show wpAny (model X.prog X.w) X.A (richCompare .NotEq (.ref a) u) (EP X pins σ Q) X.xe s
  refine AWR.ne_K (tb := t) (hu_of hr) iv.kIn jv (ty_looks iv ry ty) hn T.ne T.mo T.eq T.fn ?_
  refine wpAny_mono (run_in F hr.in1 (in1_frames _) hb hx iv (.cons (rr a) (.cons ry .nil)) q) (fun z s' h => ?_) fun _ _ z => z
  obtain ⟨z', H', I', rz, b, ez, qz⟩ := h
  subst ez
  cases rz
  exact ⟨b, rfl, .bl (!b), H', I', rfl, qz⟩
/-- a op b by a's own method, b of the same class or of a built-in one -/
inductive RtOk (K : PySem.W.Frag) (C : Addr) (op : Operator) : Value → Prop where
  | same : RtOk K C op (.ref C)
  | ty {n : String} {r1 r2 : Option Value} (h1 : PySem.W.findIn K (.type n) (PySem.dunder op.info.2) = some r1) (h2 : PySem.W.findIn K (.type n) (PySem.dunderR op.info.2) = some r2) (hs : PySem.W.subIn K (.type n) (.ref C) = some false) : RtOk K C op (.type n)
structure OpC (K : PySem.W.Frag) (C f : Addr) (op : Operator) : Prop where
  self : PySem.W.selfFirst K C = true
  bop : PySem.W.findIn K (.ref C) (PySem.dunder op.info.2) = some (some (.ref f))
  rop : PySem.W.findIn K (.ref C) (PySem.dunderR op.info.2) = some none
  fn : PySem.W.isFn K (.ref f) = true
def rOpO (K : PySem.W.Frag) (C : Addr) (op : Operator) (sp : Sp) (E : XK) : R2 := fun x y H Q => ∃ a dx fs t, x = .ref a ∧ H a = some (.ins C dx fs) ∧ TyX K H y t ∧ RtOk K C op t ∧ sp [x, y] H Q E
theorem op_ownO {op : Operator} (T : OpC X.K C f op) (F : FnOk X.prog X.w X.K X.mg X.base CX k f fd ps sp) (hr : Room k X.A) (hb : Binds X.K fd ps []) (hx : Passes CX X E) : OpR X (binaryOp op) (rOpO X.K C op sp E) := by
  intro pins s σ H x y v u Q iv rx ry kq
  obtain ⟨a, dx, fs, t, rfl, ha, ty, rt, q⟩ := kq
  cases rx
  obtain ⟨mo, jv, _⟩ := ins_get iv.hok ha
  obtain ⟨od, jv, _⟩ := jv.look
  obtain ⟨m, hF⟩ := iv.fr
  have L := ty_looks iv ry ty
  have go : wpAny (model X.prog X.w) X.A (call (.ref f) [.ref a, u]) (PySem.W.CmpBack (EP X pins σ Q)) X.xe s :=
    wpAny_mono (run_in F hr rfl hb hx iv (.cons (rr a) (.cons ry .nil)) q) (fun z s' h => by
      obtain ⟨z', H', I', rz, qz⟩ := h
      exact SlX.cmpback rz ⟨z', H', I', rz, qz⟩) fun _ _ z => z
  cases rt with
  | same => exact PySem.W.binop_K hF iv.ok.mod.kin jv L T.self T.bop T.fn go
  | ty h1 h2 hs => exact AWR.binop_ty iv.kIn jv L T.self T.bop T.rop T.fn h1 h2 hs go
/-- ~a by a's own method -/
def rUnO (C : Addr) (sp : Sp) (E : XK) : V → Hp → VK → Prop := fun x H Q => ∃ a dx fs, x = .ref a ∧ H a = some (.ins C dx fs) ∧ sp [x] H Q E
theorem un_invO (hs : PySem.W.findIn X.K (.ref C) "__invert__" = some (some (.ref f))) (hf : PySem.W.isFn X.K (.ref f) = true) (F : FnOk X.prog X.w X.K X.mg X.base CX k f fd ps sp) (hr : Room k X.A) (hb : Binds X.K fd ps []) (hx : Passes CX X E) : UnR X (unaryOp .Invert) (rUnO C sp E) := by
  intro pins s σ H x v Q iv rx kq
  obtain ⟨a, dx, fs, rfl, ha, q⟩ := kq
  cases rx
  obtain ⟨mo, jv, _⟩ := ins_get iv.hok ha
  obtain ⟨od, jv, _⟩ := jv.look
  obtain ⟨m, hF⟩ := iv.fr
  exact PySem.W.ksp_inv hF iv.ok.mod.kin jv hs hf (run_in F hr rfl hb hx iv (.cons (rr a) .nil) q)
end
end AW

set_option linter.all false
set_option maxRecDepth 100000
set_option maxHeartbeats 4000000
/-! several except clauses, each with a name -/
namespace AW
open PySem PySem.Spec PyProof.Rows L2
abbrev Clause := Value × Nat × (Addr → Value → Option Addr → TS)
/-- behind a suite the clause's name is gone -/
def unD (D : Ends) (i : Nat) : Ends := { nx := fun σ' H' => D.nx (σ'.set i none) H', rt := D.rt, bk := fun σ' H' => D.bk (σ'.set i none) H', ct := fun σ' H' => D.ct (σ'.set i none) H' }
def wManyA (K : PySem.W.Frag) (Wout : WX) (D : Ends) : List Clause → WX
  | [] => Wout
  | (c, i, ts) :: r => fun cls d σ H => ∃ b, PySem.W.exmOne K cls c = some b ∧ (b = true → ∀ a, H a = none → ts a cls d (unD D i) (σ.set i (some (.ref a))) H) ∧ (b = false → wManyA K Wout D r cls d σ H)
inductive HdsOkA (X : Cx) : List ExceptHandler → List Clause → Prop
  | nil : HdsOkA X [] []
  | cons {x n : Str} {c : Value} {i : Nat} {ts : Addr → Value → Option Addr → TS} {b₀ : Stmt} {suite : List Stmt} {np pos' : Pos} {hds : List ExceptHandler} {l : List Clause} (hi : X.N[i]? = some n) (hln : X.env.kindOf n = some .local) (hc : Names X x c)
      (hsu : ∀ (a : Addr) (oe : Obj) (cls : Value) (d : Option Addr) (pn : List (Addr × Obj)), Zc cls d oe → (∃ vs, oe.data = .fields vs) → PSs (X.suite a ((a, oe) :: pn)) (b₀ :: suite) (ts a cls d)) (r : HdsOkA X hds l) :
      HdsOkA X (.ExceptHandler (some (.Name x np)) (some n) (b₀ :: suite) pos' :: hds) ((c, i, ts) :: l)
section
variable {X : Cx} {body : List Stmt} {h₀ : ExceptHandler} {hds : List ExceptHandler} {l : List Clause} {pos : Pos} {tb : WX → TS} {Wout : WX}
theorem ps_try_manyA (hs : X.stack = X.env :: X.outer) (hf : X.env.frame = some X.env.locals) (hN : X.N.Nodup) (tk : Takes X Wout)
    (hb : ∀ (W : WX) (pn : List (Addr × Obj)) (xe : Value → Shared → Prop), Takes (X.tr pn xe) W → PassesOwn (model X.prog X.w) X.A X.env xe → PSs (X.tr pn xe) body (tb W))
    (hh : HdsOkA X (h₀ :: hds) l) : PS X (.Try body (h₀ :: hds) [] [] pos) (fun D σ H => tb (wManyA X.K Wout D l) D σ H) := by
  refine ⟨fun pn0 s σ H D iv h => ?_⟩
  have okI := iv.ok
  have hFrames : X.A.frames = some (X.env :: X.outer) := by rw [okI.frames, hs]
  refine wpAny_Try_except ?_
  refine wpAny_mono ((hb (wManyA X.K Wout D l) (X.pn ++ pn0) (fun e s₁ => wpAny (model X.prog X.w) X.A (noteFrame e X.env) (fun _ s₂ => wpAny (model X.prog X.w) X.A (setFlight e none) (fun _ s₃ =>
    wpAny (model X.prog X.w) X.A (handleBy e X.env (h₀ :: hds)) (SP X pn0 D) X.xe s₃) X.xe s₂) X.xe s₁) (fun u s' xx => ?_) PassesOwn.looking).run [] s σ H D (iv.toTry _) h) (fun f s1 endp => ?_) (fun e s1 he => he)
  · obtain ⟨a, B, sI, pins', σ', H', cls, d, rfl, jw, nb, up, skA, na, os, ag, w⟩ := xx
    have jv : Inv X pn0 σ' H' sI := jw.ofTry okI
    have skB : Sky B (X.env :: X.outer) a (Zc cls d) X.env.locals s'.heap := by rw [← hs]; exact skA
    show wpAny (model X.prog X.w) X.A (noteFrame (.ref a) X.env) _ _ _
    refine Sky.land Zc.steady hFrames hf skB fun hpC flC upC => ?_
    have jC : Inv X pn0 σ' H' { s' with heap := hpC } := jv.landed nb flC.1 (up.trans upC) os ag
    obtain ⟨obC, vlC, heC, hzC, hdC⟩ := flC.there
    have frNot : ∀ {h : Heap} {o : Obj} {vs : Array Value}, h.FunFrames B (X.env :: X.outer) → h.get? a = some o → o.data = .fields vs → a ∉ frs (X.env :: X.outer) := fun {h o vs} ff e dd hmm => by
      obtain ⟨_, o', e', hnf⟩ := ff.mem hmm
      rw [e] at e'; cases e'
      exact hnf _ dd
    have frA := frNot flC.2.2.1 heC hdC
    have neL : a ≠ X.env.locals := fun z => frA (List.mem_filterMap.mpr ⟨X.env, List.mem_cons_self, by rw [hf, z]⟩)
    have neF : a ∉ X.fs := fun hmm => by
      obtain ⟨e, he, q⟩ := List.mem_filterMap.mp hmm
      exact frA (List.mem_filterMap.mpr ⟨e, List.mem_cons_of_mem _ he, q⟩)
    have suC := jC.suite heC hdC na neL neF
    have walk : ∀ {hds' : List ExceptHandler} {l' : List Clause}, HdsOkA X hds' l' → wManyA X.K Wout D l' cls d σ' H' →
        wpAny (model X.prog X.w) X.A (handleBy (.ref a) X.env hds') (SP X pn0 D) X.xe { s' with heap := hpC } := by
      intro hds' l' hk
      induction hk with
      | nil =>
        intro w
        refine wpAny_handleBy_nil ?_
        obtain ⟨k1, k2, k3, oe, vs, T, oT, ts', he, hz, hd, h1, hr⟩ := id flC
        unfold PySem.passOn
        refine wpAny_bind (wpAny_field he hd h1 ?_)
        rw [if_neg (show ¬ ((Value.ref T == Value.none) = true) from by simp)]
        have out : wpAny (model X.prog X.w) X.A (setFlight (.ref a) X.env.frame) (fun _ s4 => wpAny (model X.prog X.w) X.A (throw (.ref a) : Sem Flow) (SP X pn0 D) X.xe s4) X.xe { s' with heap := hpC } := by
          rw [hf]
          refine HandSPX.setFlight_upZ flC fun hpD hh4 upD => wpAny_throw (tk _ _ ?_)
          exact ⟨a, B, sI, pn0, σ', H', cls, d, rfl, jv, nb, (up.trans upC).trans upD, .inr (.inr (by rw [hs]; exact hh4)), na, os, ag, w⟩
        first
          | exact wpAny_bind (wpAny_pure (wpAny_bind out))
          | exact wpAny_bind out
      | @cons x n c i ts b₀ suite np pos' hds2 l2 hi hln hc hsu r ih =>
        intro w
        obtain ⟨b, hb1, hyes, hno⟩ := w
        have hloc : Loc X.env.scope n := .inl hln
        refine wpAny_handleBy_cons (codeAny_handlers_test ?_) (by intro q; cases q)
        have lkT : PySem.W.Looks (model X.prog X.w) hpC (typeOf (.ref a)) cls := fun A Q E s k q => wpAny_typeOf_ref (k _ _ heC) (by rw [hzC.1]; exact q)
        have lkM := PySem.W.exm_one (M := model X.prog X.w) (jC.kIn) lkT hb1
        have test : ∀ {Q : Value → Shared → Prop} {E : Value → Shared → Prop}, Q c { s' with heap := hpC } → wpAny (model X.prog X.w) (X.A.mark (some (.ref a))) (eval (.Name x np) X.env) Q E { s' with heap := hpC } := fun {Q E} q => by
          obtain ⟨hg, hdbg, hmm | ⟨hmm, hv, hnn⟩⟩ := hc
          · exact ld_glob (X := X.suite a ((a, obC) :: (X.pn ++ pn0))) suC hg hmm q hdbg
          · exact ld_blt (X := X.suite a ((a, obC) :: (X.pn ++ pn0))) suC hg hmm hv q hnn hdbg
        refine test (lkM.here ?_)
        cases b with
        | true =>
          refine codeAny_handlers_suite_as ?_
          refine HandSPX.lands_againZ flC fun hpD flD upD => ?_
          have jD : Inv X pn0 σ' H' { s' with heap := hpD } := jv.landed nb flD.1 ((up.trans upC).trans upD) os ag
          obtain ⟨obD, vlD, heD, hzD, hdD⟩ := flD.there
          have suD := jD.suite heD hdD na neL neF
          refine store_ok (X := X.suite a ((a, obD) :: (X.pn ++ pn0))) (v := .ref a) suD hN hi hloc rfl (fun shE suE => ?_) (.inr hln)
          refine wpAny_mono ((hsu a obD cls d (X.pn ++ pn0) hzD ⟨_, hdD⟩).run [] shE _ H' _ suE (hyes rfl a na)) (fun f shF endp => ?_) (fun _ _ z => False.elim z)
          have end_ : ∀ {stF : L2.St} {hpF : Hp} {Q : Shared → Prop}, Inv (X.suite a ((a, obD) :: (X.pn ++ pn0))) [] stF hpF shF → (∀ shG, Inv X pn0 (stF.set i none) hpF shG → Q shG) →
              wpAny (model X.prog X.w) X.A (do bindName X.env n .none; unbindBehindTheSuite X.env n pos') (fun _ shG => Q shG) X.xe shF := fun {stF hpF Q} suF hq => gone_ok (suF.unsuite okI) hN hi hln hq
          cases f with
          | next =>
            obtain ⟨stF, hpF, suF, qF⟩ := endp
            exact end_ suF fun shG jG => ⟨_, _, jG, qF⟩
          | brk =>
            obtain ⟨stF, hpF, suF, qF⟩ := endp
            exact end_ suF fun shG jG => ⟨_, _, jG, qF⟩
          | cont =>
            obtain ⟨stF, hpF, suF, qF⟩ := endp
            exact end_ suF fun shG jG => ⟨_, _, jG, qF⟩
          | ret u =>
            obtain ⟨vF, stF, hpF, suF, rF, qF⟩ := endp
            exact end_ suF fun shG jG => ⟨_, _, _, jG, rF, qF⟩
        | false =>
          show wpAny _ X.A (handleBy (.ref a) X.env hds2) _ _ _
          exact ih (hno rfl)
    exact walk hh w
  · cases f with
    | next =>
      obtain ⟨σ', H', jw, q⟩ := endp
      exact wpAny_execs_nil ⟨σ', H', jw.ofTry okI, q⟩
    | brk =>
      obtain ⟨σ', H', jw, q⟩ := endp
      exact ⟨σ', H', jw.ofTry okI, q⟩
    | cont =>
      obtain ⟨σ', H', jw, q⟩ := endp
      exact ⟨σ', H', jw.ofTry okI, q⟩
    | ret u =>
      obtain ⟨v, σ', H', jw, r, q⟩ := endp
      exact ⟨v, σ', H', jw.ofTry okI, r, q⟩
end
end AW

set_option linter.all false
set_option maxRecDepth 100000
set_option maxHeartbeats 4000000
namespace AW
open PySem PySem.Spec PyProof.Rows L2
def top (i : Nat) : Stmt := PySem.Challenge.pw_areawalks_k12_whole_steps_judged.main.body.getD i (.Pass ⟨0, 0, 0, 0⟩)
abbrev s__wall : Stmt := top 1
abbrev s_BadNumber_init : Stmt := inClass (top 4) 0
abbrev s_BadPlace_init : Stmt := inClass (top 5) 0
abbrev s_is_integer : Stmt := top 7
abbrev s_check_integer : Stmt := top 8
abbrev s_fewest_steps : Stmt := top 10
abbrev s_quotient_up : Stmt := top 11
abbrev s_half_outline : Stmt := top 12
abbrev s_Place_init : Stmt := inClass (top 14) 0
abbrev s_Place_eq : Stmt := inClass (top 14) 1
abbrev s_Place_mul : Stmt := inClass (top 14) 2
abbrev s_Place_invert : Stmt := inClass (top 14) 3
abbrev s_Place_power : Stmt := inClass (top 14) 4
abbrev s_Place_is_home : Stmt := inClass (top 14) 5
abbrev s_Place_lifted : Stmt := inClass (top 14) 6
abbrev s_Place_twist : Stmt := inClass (top 14) 7
abbrev s_check_place : Stmt := top 15
abbrev s_steps : Stmt := top 17
abbrev s_distance : Stmt := top 18
abbrev s_l_pen : Stmt := top 20
abbrev s_l_draw : Stmt := top 21
abbrev s_l_pick : Stmt := top 22
abbrev s_l_great : Stmt := top 23
abbrev s_l_signed : Stmt := top 24
abbrev s_l_gone : Stmt := top 25
abbrev s_l_place : Stmt := top 26
abbrev s_l_times : Stmt := top 27
abbrev s_l_far : Stmt := top 28
abbrev s_l_is_judged : Stmt := top 29
abbrev s_l_ways : Stmt := top 30
abbrev s_l_closed_right : Stmt := top 31
abbrev s_law : Stmt := top 32
abbrev N__wall : List Str := ["k"]
abbrev P__wall : List Str := ["k"]
theorem sc__wall : FnScope N__wall P__wall (defScope s__wall) := ⟨rfl, rfl, rfl, by decide +kernel, rfl, by decide +kernel, by decide +kernel⟩
abbrev N_BadNumber_init : List Str := ["self", "value"]
abbrev P_BadNumber_init : List Str := ["self", "value"]
theorem sc_BadNumber_init : FnScope N_BadNumber_init P_BadNumber_init (defScope s_BadNumber_init) := ⟨rfl, rfl, rfl, by decide +kernel, rfl, by decide +kernel, by decide +kernel⟩
abbrev N_BadPlace_init : List Str := ["self", "value"]
abbrev P_BadPlace_init : List Str := ["self", "value"]
theorem sc_BadPlace_init : FnScope N_BadPlace_init P_BadPlace_init (defScope s_BadPlace_init) := ⟨rfl, rfl, rfl, by decide +kernel, rfl, by decide +kernel, by decide +kernel⟩
abbrev N_is_integer : List Str := ["value"]
abbrev P_is_integer : List Str := ["value"]
theorem sc_is_integer : FnScope N_is_integer P_is_integer (defScope s_is_integer) := ⟨rfl, rfl, rfl, by decide +kernel, rfl, by decide +kernel, by decide +kernel⟩
abbrev N_check_integer : List Str := ["value"]
abbrev P_check_integer : List Str := ["value"]
theorem sc_check_integer : FnScope N_check_integer P_check_integer (defScope s_check_integer) := ⟨rfl, rfl, rfl, by decide +kernel, rfl, by decide +kernel, by decide +kernel⟩
abbrev N_fewest_steps : List Str := ["place", "longer", "shorter", "area"]
abbrev P_fewest_steps : List Str := ["place"]
theorem sc_fewest_steps : FnScope N_fewest_steps P_fewest_steps (defScope s_fewest_steps) := ⟨rfl, rfl, rfl, by decide +kernel, rfl, by decide +kernel, by decide +kernel⟩
abbrev N_quotient_up : List Str := ["number", "divisor"]
abbrev P_quotient_up : List Str := ["number", "divisor"]
theorem sc_quotient_up : FnScope N_quotient_up P_quotient_up (defScope s_quotient_up) := ⟨rfl, rfl, rfl, by decide +kernel, rfl, by decide +kernel, by decide +kernel⟩
abbrev N_half_outline : List Str := ["area"]
abbrev P_half_outline : List Str := ["area"]
theorem sc_half_outline : FnScope N_half_outline P_half_outline (defScope s_half_outline) := ⟨rfl, rfl, rfl, by decide +kernel, rfl, by decide +kernel, by decide +kernel⟩
abbrev N_Place_init : List Str := ["self", "x", "y", "area", "value"]
abbrev P_Place_init : List Str := ["self", "x", "y", "area"]
theorem sc_Place_init : FnScope N_Place_init P_Place_init (defScope s_Place_init) := ⟨rfl, rfl, rfl, by decide +kernel, rfl, by decide +kernel, by decide +kernel⟩
abbrev N_Place_eq : List Str := ["self", "other"]
abbrev P_Place_eq : List Str := ["self", "other"]
theorem sc_Place_eq : FnScope N_Place_eq P_Place_eq (defScope s_Place_eq) := ⟨rfl, rfl, rfl, by decide +kernel, rfl, by decide +kernel, by decide +kernel⟩
abbrev N_Place_mul : List Str := ["self", "other"]
abbrev P_Place_mul : List Str := ["self", "other"]
theorem sc_Place_mul : FnScope N_Place_mul P_Place_mul (defScope s_Place_mul) := ⟨rfl, rfl, rfl, by decide +kernel, rfl, by decide +kernel, by decide +kernel⟩
abbrev N_Place_invert : List Str := ["self"]
abbrev P_Place_invert : List Str := ["self"]
theorem sc_Place_invert : FnScope N_Place_invert P_Place_invert (defScope s_Place_invert) := ⟨rfl, rfl, rfl, by decide +kernel, rfl, by decide +kernel, by decide +kernel⟩
abbrev N_Place_power : List Str := ["self", "number"]
abbrev P_Place_power : List Str := ["self", "number"]
theorem sc_Place_power : FnScope N_Place_power P_Place_power (defScope s_Place_power) := ⟨rfl, rfl, rfl, by decide +kernel, rfl, by decide +kernel, by decide +kernel⟩
abbrev N_Place_is_home : List Str := ["self"]
abbrev P_Place_is_home : List Str := ["self"]
theorem sc_Place_is_home : FnScope N_Place_is_home P_Place_is_home (defScope s_Place_is_home) := ⟨rfl, rfl, rfl, by decide +kernel, rfl, by decide +kernel, by decide +kernel⟩
abbrev N_Place_lifted : List Str := ["self", "storeys"]
abbrev P_Place_lifted : List Str := ["self", "storeys"]
theorem sc_Place_lifted : FnScope N_Place_lifted P_Place_lifted (defScope s_Place_lifted) := ⟨rfl, rfl, rfl, by decide +kernel, rfl, by decide +kernel, by decide +kernel⟩
abbrev N_Place_twist : List Str := ["self", "other"]
abbrev P_Place_twist : List Str := ["self", "other"]
theorem sc_Place_twist : FnScope N_Place_twist P_Place_twist (defScope s_Place_twist) := ⟨rfl, rfl, rfl, by decide +kernel, rfl, by decide +kernel, by decide +kernel⟩
abbrev N_check_place : List Str := ["value"]
abbrev P_check_place : List Str := ["value"]
theorem sc_check_place : FnScope N_check_place P_check_place (defScope s_check_place) := ⟨rfl, rfl, rfl, by decide +kernel, rfl, by decide +kernel, by decide +kernel⟩
abbrev N_steps : List Str := ["place"]
abbrev P_steps : List Str := ["place"]
theorem sc_steps : FnScope N_steps P_steps (defScope s_steps) := ⟨rfl, rfl, rfl, by decide +kernel, rfl, by decide +kernel, by decide +kernel⟩
abbrev N_distance : List Str := ["one", "other"]
abbrev P_distance : List Str := ["one", "other"]
theorem sc_distance : FnScope N_distance P_distance (defScope s_distance) := ⟨rfl, rfl, rfl, by decide +kernel, rfl, by decide +kernel, by decide +kernel⟩
abbrev N_l_pen : List Str := ["_law_script"]
abbrev P_l_pen : List Str := ["_law_script"]
theorem sc_l_pen : FnScope N_l_pen P_l_pen (defScope s_l_pen) := ⟨rfl, rfl, rfl, by decide +kernel, rfl, by decide +kernel, by decide +kernel⟩
abbrev N_l_draw : List Str := ["_law_pen_here", "_law_span", "_law_digit", "_law_at", "_law_cell", "_law_mash"]
abbrev P_l_draw : List Str := ["_law_pen_here", "_law_span"]
theorem sc_l_draw : FnScope N_l_draw P_l_draw (defScope s_l_draw) := ⟨rfl, rfl, rfl, by decide +kernel, rfl, by decide +kernel, by decide +kernel⟩
abbrev N_l_pick : List Str := ["_law_pen_here", "_law_items"]
abbrev P_l_pick : List Str := ["_law_pen_here", "_law_items"]
theorem sc_l_pick : FnScope N_l_pick P_l_pick (defScope s_l_pick) := ⟨rfl, rfl, rfl, by decide +kernel, rfl, by decide +kernel, by decide +kernel⟩
abbrev N_l_great : List Str := ["_law_pen_here", "_law_figures", "_law_found", "_law_go"]
abbrev P_l_great : List Str := ["_law_pen_here", "_law_figures"]
theorem sc_l_great : FnScope N_l_great P_l_great (defScope s_l_great) := ⟨rfl, rfl, rfl, by decide +kernel, rfl, by decide +kernel, by decide +kernel⟩
abbrev N_l_signed : List Str := ["_law_pen_here", "_law_figures", "_law_found"]
abbrev P_l_signed : List Str := ["_law_pen_here", "_law_figures"]
theorem sc_l_signed : FnScope N_l_signed P_l_signed (defScope s_l_signed) := ⟨rfl, rfl, rfl, by decide +kernel, rfl, by decide +kernel, by decide +kernel⟩
abbrev N_l_gone : List Str := ["_law_spot", "_law_letter", "_law_times_here", "_law_x", "_law_y", "_law_area"]
abbrev P_l_gone : List Str := ["_law_spot", "_law_letter", "_law_times_here"]
theorem sc_l_gone : FnScope N_l_gone P_l_gone (defScope s_l_gone) := ⟨rfl, rfl, rfl, by decide +kernel, rfl, by decide +kernel, by decide +kernel⟩
abbrev N_l_place : List Str := ["_law_spot"]
abbrev P_l_place : List Str := ["_law_spot"]
theorem sc_l_place : FnScope N_l_place P_l_place (defScope s_l_place) := ⟨rfl, rfl, rfl, by decide +kernel, rfl, by decide +kernel, by decide +kernel⟩
abbrev N_l_times : List Str := ["_law_one", "_law_other"]
abbrev P_l_times : List Str := ["_law_one", "_law_other"]
theorem sc_l_times : FnScope N_l_times P_l_times (defScope s_l_times) := ⟨rfl, rfl, rfl, by decide +kernel, rfl, by decide +kernel, by decide +kernel⟩
abbrev N_l_far : List Str := ["_law_pen_here", "_law_figures", "_law_x", "_law_y", "_law_path", "_law_wide", "_law_high", "_law_area"]
abbrev P_l_far : List Str := ["_law_pen_here", "_law_figures"]
theorem sc_l_far : FnScope N_l_far P_l_far (defScope s_l_far) := ⟨rfl, rfl, rfl, by decide +kernel, rfl, by decide +kernel, by decide +kernel⟩
abbrev N_l_is_judged : List Str := ["_law_spot", "_law_here", "_law_there", "_law_letter", "_law_number"]
abbrev P_l_is_judged : List Str := ["_law_spot"]
theorem sc_l_is_judged : FnScope N_l_is_judged P_l_is_judged (defScope s_l_is_judged) := ⟨rfl, rfl, rfl, by decide +kernel, rfl, by decide +kernel, by decide +kernel⟩
abbrev N_l_ways : List Str := ["_law_spot", "_law_x", "_law_y", "_law_area"]
abbrev P_l_ways : List Str := ["_law_spot"]
theorem sc_l_ways : FnScope N_l_ways P_l_ways (defScope s_l_ways) := ⟨rfl, rfl, rfl, by decide +kernel, rfl, by decide +kernel, by decide +kernel⟩
abbrev N_l_closed_right : List Str := ["_law_pen_here", "_law_side", "_law_more", "_law_ground", "_law_wide", "_law_high"]
abbrev P_l_closed_right : List Str := ["_law_pen_here"]
theorem sc_l_closed_right : FnScope N_l_closed_right P_l_closed_right (defScope s_l_closed_right) := ⟨rfl, rfl, rfl, by decide +kernel, rfl, by decide +kernel, by decide +kernel⟩
abbrev N_law : List Str := ["_law_script", "_law_pen_here", "_law_lap", "_law_spot", "_law_here", "_law_one", "_law_other", "_law_further", "_law_letter"]
abbrev P_law : List Str := ["_law_script"]
theorem sc_law : FnScope N_law P_law (defScope s_law) := ⟨rfl, rfl, rfl, by decide +kernel, rfl, by decide +kernel, by decide +kernel⟩
/-- a def whose code object is known -/
structure FunC (K : PySem.W.Frag) (x qual : Str) (st : Stmt) (f : Addr) (fd : FuncData) (c : Addr) : Prop where
  ex : ∃ (oc : Value) (od : Option Addr) (kV doc pm : Value) (an : Option Addr) (ct : Value) (osl : Array (Option Value)),
    fd = PySem.W.fnOf x qual (defArgs st) (defBody st) (defScope st) .none kV doc pm an (.ref c) ct ∧ K.lookup f = some ⟨oc, od, .func fd, osl⟩ ∧ PySem.W.codeIn K (.ref c) qual = true
  kp : PySem.W.keepIn K (.ref f) = true
section
variable {P : Program} {w : World} {K : PySem.W.Frag} {mg : Str → Option Value} {base : Heap}
theorem FunC.okX {x qual : Str} {st : Stmt} {f : Addr} {fd : FuncData} {c : Addr} {N ps : List Str} {k : Nat} {sp : Sp} (F : FunC K x qual st f fd c) (S : FnScope N ps (defScope st)) (len : ∀ vs H Q E, sp vs H Q E → vs.length = ps.length)
    (hbody : ∀ (A : Around) (outer : List Env) (s : Shared) (H : Hp) (vs : List V) (Q : VK) (E : XK), Room k (A.deeper (envOfC qual (defScope st) s.heap.objs.size f (.ref c))) → sp vs H Q E →
      ∃ t, PSs (cxOf (L2.CX P w) P w K mg base N qual (defScope st) f (.ref c) A outer s H E) (defBody st) t ∧ t { nx := fun _ H' => Q .non H', rt := Q } (start N vs) H) : FnOk P w K mg base (L2.CX P w) (k + 1) f fd ps sp := by
  obtain ⟨oc, od, kV, doc, pm, an, ct, osl, rfl, lk, hcd⟩ := F.ex
  exact fn_of lk hcd S len fun A outer s H vs Q E hr hsp => hbody A outer s H vs Q E hr hsp
end
/-- what the top has left -/
structure Tx (K : PySem.W.Frag) (mg : Str → Option Value) where
  a__wall : Addr
  d__wall : FuncData
  F__wall : Fun K "_wall" "_wall" s__wall a__wall d__wall
  b__wall : Binds K d__wall P__wall []
  g__wall : mg "_wall" = some (.ref a__wall)
  a_is_integer : Addr
  d_is_integer : FuncData
  F_is_integer : Fun K "is_integer" "is_integer" s_is_integer a_is_integer d_is_integer
  b_is_integer : Binds K d_is_integer P_is_integer []
  g_is_integer : mg "is_integer" = some (.ref a_is_integer)
  a_check_integer : Addr
  d_check_integer : FuncData
  F_check_integer : Fun K "check_integer" "check_integer" s_check_integer a_check_integer d_check_integer
  b_check_integer : Binds K d_check_integer P_check_integer []
  g_check_integer : mg "check_integer" = some (.ref a_check_integer)
  a_fewest_steps : Addr
  d_fewest_steps : FuncData
  F_fewest_steps : Fun K "fewest_steps" "fewest_steps" s_fewest_steps a_fewest_steps d_fewest_steps
  b_fewest_steps : Binds K d_fewest_steps P_fewest_steps []
  g_fewest_steps : mg "fewest_steps" = some (.ref a_fewest_steps)
  a_quotient_up : Addr
  d_quotient_up : FuncData
  F_quotient_up : Fun K "quotient_up" "quotient_up" s_quotient_up a_quotient_up d_quotient_up
  b_quotient_up : Binds K d_quotient_up P_quotient_up []
  g_quotient_up : mg "quotient_up" = some (.ref a_quotient_up)
  a_half_outline : Addr
  d_half_outline : FuncData
  F_half_outline : Fun K "half_outline" "half_outline" s_half_outline a_half_outline d_half_outline
  b_half_outline : Binds K d_half_outline P_half_outline []
  g_half_outline : mg "half_outline" = some (.ref a_half_outline)
  a_check_place : Addr
  d_check_place : FuncData
  F_check_place : Fun K "check_place" "check_place" s_check_place a_check_place d_check_place
  b_check_place : Binds K d_check_place P_check_place []
  g_check_place : mg "check_place" = some (.ref a_check_place)
  a_steps : Addr
  d_steps : FuncData
  F_steps : Fun K "steps" "steps" s_steps a_steps d_steps
  b_steps : Binds K d_steps P_steps []
  g_steps : mg "steps" = some (.ref a_steps)
  a_distance : Addr
  d_distance : FuncData
  F_distance : Fun K "distance" "distance" s_distance a_distance d_distance
  b_distance : Binds K d_distance P_distance []
  g_distance : mg "distance" = some (.ref a_distance)
  a_l_pen : Addr
  d_l_pen : FuncData
  F_l_pen : Fun K "_law_pen" "_law_pen" s_l_pen a_l_pen d_l_pen
  b_l_pen : Binds K d_l_pen P_l_pen []
  g_l_pen : mg "_law_pen" = some (.ref a_l_pen)
  a_l_draw : Addr
  d_l_draw : FuncData
  F_l_draw : Fun K "_law_draw" "_law_draw" s_l_draw a_l_draw d_l_draw
  b_l_draw : Binds K d_l_draw P_l_draw []
  g_l_draw : mg "_law_draw" = some (.ref a_l_draw)
  a_l_pick : Addr
  d_l_pick : FuncData
  F_l_pick : Fun K "_law_pick" "_law_pick" s_l_pick a_l_pick d_l_pick
  b_l_pick : Binds K d_l_pick P_l_pick []
  g_l_pick : mg "_law_pick" = some (.ref a_l_pick)
  a_l_great : Addr
  d_l_great : FuncData
  F_l_great : Fun K "_law_great" "_law_great" s_l_great a_l_great d_l_great
  b_l_great : Binds K d_l_great P_l_great []
  g_l_great : mg "_law_great" = some (.ref a_l_great)
  a_l_signed : Addr
  d_l_signed : FuncData
  F_l_signed : Fun K "_law_signed" "_law_signed" s_l_signed a_l_signed d_l_signed
  b_l_signed : Binds K d_l_signed P_l_signed []
  g_l_signed : mg "_law_signed" = some (.ref a_l_signed)
  a_l_gone : Addr
  d_l_gone : FuncData
  F_l_gone : Fun K "_law_gone" "_law_gone" s_l_gone a_l_gone d_l_gone
  b_l_gone : Binds K d_l_gone P_l_gone []
  g_l_gone : mg "_law_gone" = some (.ref a_l_gone)
  a_l_place : Addr
  d_l_place : FuncData
  F_l_place : Fun K "_law_place" "_law_place" s_l_place a_l_place d_l_place
  b_l_place : Binds K d_l_place P_l_place []
  g_l_place : mg "_law_place" = some (.ref a_l_place)
  a_l_times : Addr
  d_l_times : FuncData
  F_l_times : Fun K "_law_times" "_law_times" s_l_times a_l_times d_l_times
  b_l_times : Binds K d_l_times P_l_times []
  g_l_times : mg "_law_times" = some (.ref a_l_times)
  a_l_far : Addr
  d_l_far : FuncData
  F_l_far : Fun K "_law_far" "_law_far" s_l_far a_l_far d_l_far
  b_l_far : Binds K d_l_far P_l_far []
  g_l_far : mg "_law_far" = some (.ref a_l_far)
  a_l_is_judged : Addr
  d_l_is_judged : FuncData
  F_l_is_judged : Fun K "_law_is_judged" "_law_is_judged" s_l_is_judged a_l_is_judged d_l_is_judged
  b_l_is_judged : Binds K d_l_is_judged P_l_is_judged []
  g_l_is_judged : mg "_law_is_judged" = some (.ref a_l_is_judged)
  a_l_ways : Addr
  d_l_ways : FuncData
  F_l_ways : Fun K "_law_ways" "_law_ways" s_l_ways a_l_ways d_l_ways
  b_l_ways : Binds K d_l_ways P_l_ways []
  g_l_ways : mg "_law_ways" = some (.ref a_l_ways)
  a_l_closed_right : Addr
  d_l_closed_right : FuncData
  F_l_closed_right : Fun K "_law_closed_right" "_law_closed_right" s_l_closed_right a_l_closed_right d_l_closed_right
  b_l_closed_right : Binds K d_l_closed_right P_l_closed_right []
  g_l_closed_right : mg "_law_closed_right" = some (.ref a_l_closed_right)
  a_law : Addr
  d_law : FuncData
  F_law : Fun K "law" "law" s_law a_law d_law
  b_law : Binds K d_law P_law []
  g_law : mg "law" = some (.ref a_law)
  C_WalkError : Addr
  g_C_WalkError : mg "WalkError" = some (.ref C_WalkError)
  X_WalkError : OexC K C_WalkError
  Y_WalkError : XfC K C_WalkError
  C_BadNumber : Addr
  g_C_BadNumber : mg "BadNumber" = some (.ref C_BadNumber)
  a_BadNumber_init : Addr
  d_BadNumber_init : FuncData
  F_BadNumber_init : Fun K "__init__" "BadNumber.__init__" s_BadNumber_init a_BadNumber_init d_BadNumber_init
  b_BadNumber_init : Binds K d_BadNumber_init P_BadNumber_init []
  X_BadNumber : OexC K C_BadNumber
  Y_BadNumber : XfC K C_BadNumber
  ei_BadNumber : PySem.W.findIn K (.ref C_BadNumber) "__init__" = some (some (.ref a_BadNumber_init))
  et_BadNumber : PySem.W.typeIn K (.ref a_BadNumber_init) = some (.type "function")
  na_BadNumber_value : PySem.W.findIn K (.ref C_BadNumber) "value" = some none
  C_BadPlace : Addr
  g_C_BadPlace : mg "BadPlace" = some (.ref C_BadPlace)
  a_BadPlace_init : Addr
  d_BadPlace_init : FuncData
  F_BadPlace_init : Fun K "__init__" "BadPlace.__init__" s_BadPlace_init a_BadPlace_init d_BadPlace_init
  b_BadPlace_init : Binds K d_BadPlace_init P_BadPlace_init []
  X_BadPlace : OexC K C_BadPlace
  Y_BadPlace : XfC K C_BadPlace
  ei_BadPlace : PySem.W.findIn K (.ref C_BadPlace) "__init__" = some (some (.ref a_BadPlace_init))
  et_BadPlace : PySem.W.typeIn K (.ref a_BadPlace_init) = some (.type "function")
  na_BadPlace_value : PySem.W.findIn K (.ref C_BadPlace) "value" = some none
  C_Place : Addr
  g_C_Place : mg "Place" = some (.ref C_Place)
  cl_Place : Cls K C_Place
  ca_Place : PySem.W.findIn K (.ref C_Place) "__class__" = some (some (.builtin "object.__class__"))
  cm_Place : PySem.W.mroIn K C_Place (.type "object") = some true
  na_Place_x : NoAttr K C_Place "x"
  na_Place_y : NoAttr K C_Place "y"
  na_Place_area : NoAttr K C_Place "area"
  a_Place_init : Addr
  d_Place_init : FuncData
  F_Place_init : Fun K "__init__" "Place.__init__" s_Place_init a_Place_init d_Place_init
  b_Place_init : Binds K d_Place_init P_Place_init []
  M_Place : Mk K C_Place a_Place_init
  a_Place_eq : Addr
  d_Place_eq : FuncData
  F_Place_eq : Fun K "__eq__" "Place.__eq__" s_Place_eq a_Place_eq d_Place_eq
  b_Place_eq : Binds K d_Place_eq P_Place_eq []
  E_Place : EqC K C_Place a_Place_eq
  a_Place_mul : Addr
  d_Place_mul : FuncData
  F_Place_mul : Fun K "__mul__" "Place.__mul__" s_Place_mul a_Place_mul d_Place_mul
  b_Place_mul : Binds K d_Place_mul P_Place_mul []
  O_Place_Mult : OpC K C_Place a_Place_mul .Mult
  a_Place_invert : Addr
  d_Place_invert : FuncData
  F_Place_invert : Fun K "__invert__" "Place.__invert__" s_Place_invert a_Place_invert d_Place_invert
  b_Place_invert : Binds K d_Place_invert P_Place_invert []
  m_Place_invert : PySem.W.findIn K (.ref C_Place) "__invert__" = some (some (.ref a_Place_invert))
  i_Place_invert : PySem.W.isFn K (.ref a_Place_invert) = true
  a_Place_power : Addr
  d_Place_power : FuncData
  F_Place_power : Fun K "power" "Place.power" s_Place_power a_Place_power d_Place_power
  b_Place_power : Binds K d_Place_power P_Place_power []
  M_Place_power : Meth K C_Place "power" a_Place_power
  a_Place_is_home : Addr
  d_Place_is_home : FuncData
  F_Place_is_home : Fun K "is_home" "Place.is_home" s_Place_is_home a_Place_is_home d_Place_is_home
  b_Place_is_home : Binds K d_Place_is_home P_Place_is_home []
  M_Place_is_home : Meth K C_Place "is_home" a_Place_is_home
  a_Place_lifted : Addr
  d_Place_lifted : FuncData
  F_Place_lifted : Fun K "lifted" "Place.lifted" s_Place_lifted a_Place_lifted d_Place_lifted
  b_Place_lifted : Binds K d_Place_lifted P_Place_lifted []
  M_Place_lifted : Meth K C_Place "lifted" a_Place_lifted
  a_Place_twist : Addr
  d_Place_twist : FuncData
  F_Place_twist : Fun K "twist" "Place.twist" s_Place_twist a_Place_twist d_Place_twist
  b_Place_twist : Binds K d_Place_twist P_Place_twist []
  M_Place_twist : Meth K C_Place "twist" a_Place_twist
  cn : PySem.W.specialIn K (.builtin "object.__class__") "__get__" = some (some (.builtin "getset_descriptor.__get__"))
  ct : PySem.W.takesIn K (.builtin "object.__class__") = some true
  io_Place_int : PySem.W.kitOne K (.ref C_Place) (.type "int") = some false
  io_Place_bool : PySem.W.kitOne K (.ref C_Place) (.type "bool") = some false
  is_NoneType_Place : PySem.W.kitOne K (.type "NoneType") (.ref C_Place) = some false
  sb_NoneType_Place : PySem.W.subIn K (.type "NoneType") (.ref C_Place) = some false
  is_bool_Place : PySem.W.kitOne K (.type "bool") (.ref C_Place) = some false
  sb_bool_Place : PySem.W.subIn K (.type "bool") (.ref C_Place) = some false
  is_int_Place : PySem.W.kitOne K (.type "int") (.ref C_Place) = some false
  sb_int_Place : PySem.W.subIn K (.type "int") (.ref C_Place) = some false
  is_str_Place : PySem.W.kitOne K (.type "str") (.ref C_Place) = some false
  sb_str_Place : PySem.W.subIn K (.type "str") (.ref C_Place) = some false
  is_list_Place : PySem.W.kitOne K (.type "list") (.ref C_Place) = some false
  sb_list_Place : PySem.W.subIn K (.type "list") (.ref C_Place) = some false
  is_tuple_Place : PySem.W.kitOne K (.type "tuple") (.ref C_Place) = some false
  sb_tuple_Place : PySem.W.subIn K (.type "tuple") (.ref C_Place) = some false
  is_dict_Place : PySem.W.kitOne K (.type "dict") (.ref C_Place) = some false
  sb_dict_Place : PySem.W.subIn K (.type "dict") (.ref C_Place) = some false
  n_abs : mg "abs" = none
  n_bool : mg "bool" = none
  n_int : mg "int" = none
  n_isinstance : mg "isinstance" = none
  n_len : mg "len" = none
  n_list : mg "list" = none
  n_max : mg "max" = none
  n_min : mg "min" = none
  n_range : mg "range" = none
  mi_isqrt : mg "isqrt" = some (.builtin "math.isqrt")
theorem tx_mk {K : PySem.W.Frag} {h : Heap} {mg : Str → Option Value} {fa : Addr} {f__wall : Addr} {od__wall an__wall : Option Addr} {sl__wall : Array (Option Value)} {oc__wall kV__wall dc__wall pm__wall cd__wall ct__wall : Value}
    {f_BadNumber_init : Addr} {od_BadNumber_init an_BadNumber_init : Option Addr} {sl_BadNumber_init : Array (Option Value)} {oc_BadNumber_init kV_BadNumber_init dc_BadNumber_init pm_BadNumber_init cd_BadNumber_init ct_BadNumber_init : Value}
    {f_BadPlace_init : Addr} {od_BadPlace_init an_BadPlace_init : Option Addr} {sl_BadPlace_init : Array (Option Value)} {oc_BadPlace_init kV_BadPlace_init dc_BadPlace_init pm_BadPlace_init cd_BadPlace_init ct_BadPlace_init : Value}
    {f_is_integer : Addr} {od_is_integer an_is_integer : Option Addr} {sl_is_integer : Array (Option Value)} {oc_is_integer kV_is_integer dc_is_integer pm_is_integer cd_is_integer ct_is_integer : Value}
    {f_check_integer : Addr} {od_check_integer an_check_integer : Option Addr} {sl_check_integer : Array (Option Value)} {oc_check_integer kV_check_integer dc_check_integer pm_check_integer cd_check_integer ct_check_integer : Value}
    {f_fewest_steps : Addr} {od_fewest_steps an_fewest_steps : Option Addr} {sl_fewest_steps : Array (Option Value)} {oc_fewest_steps kV_fewest_steps dc_fewest_steps pm_fewest_steps cd_fewest_steps ct_fewest_steps : Value}
    {f_quotient_up : Addr} {od_quotient_up an_quotient_up : Option Addr} {sl_quotient_up : Array (Option Value)} {oc_quotient_up kV_quotient_up dc_quotient_up pm_quotient_up cd_quotient_up ct_quotient_up : Value}
    {f_half_outline : Addr} {od_half_outline an_half_outline : Option Addr} {sl_half_outline : Array (Option Value)} {oc_half_outline kV_half_outline dc_half_outline pm_half_outline cd_half_outline ct_half_outline : Value}
    {f_Place_init : Addr} {od_Place_init an_Place_init : Option Addr} {sl_Place_init : Array (Option Value)} {oc_Place_init kV_Place_init dc_Place_init pm_Place_init cd_Place_init ct_Place_init : Value}
    {f_Place_eq : Addr} {od_Place_eq an_Place_eq : Option Addr} {sl_Place_eq : Array (Option Value)} {oc_Place_eq kV_Place_eq dc_Place_eq pm_Place_eq cd_Place_eq ct_Place_eq : Value}
    {f_Place_mul : Addr} {od_Place_mul an_Place_mul : Option Addr} {sl_Place_mul : Array (Option Value)} {oc_Place_mul kV_Place_mul dc_Place_mul pm_Place_mul cd_Place_mul ct_Place_mul : Value}
    {f_Place_invert : Addr} {od_Place_invert an_Place_invert : Option Addr} {sl_Place_invert : Array (Option Value)} {oc_Place_invert kV_Place_invert dc_Place_invert pm_Place_invert cd_Place_invert ct_Place_invert : Value}
    {f_Place_power : Addr} {od_Place_power an_Place_power : Option Addr} {sl_Place_power : Array (Option Value)} {oc_Place_power kV_Place_power dc_Place_power pm_Place_power cd_Place_power ct_Place_power : Value}
    {f_Place_is_home : Addr} {od_Place_is_home an_Place_is_home : Option Addr} {sl_Place_is_home : Array (Option Value)} {oc_Place_is_home kV_Place_is_home dc_Place_is_home pm_Place_is_home cd_Place_is_home ct_Place_is_home : Value}
    {f_Place_lifted : Addr} {od_Place_lifted an_Place_lifted : Option Addr} {sl_Place_lifted : Array (Option Value)} {oc_Place_lifted kV_Place_lifted dc_Place_lifted pm_Place_lifted cd_Place_lifted ct_Place_lifted : Value}
    {f_Place_twist : Addr} {od_Place_twist an_Place_twist : Option Addr} {sl_Place_twist : Array (Option Value)} {oc_Place_twist kV_Place_twist dc_Place_twist pm_Place_twist cd_Place_twist ct_Place_twist : Value}
    {f_check_place : Addr} {od_check_place an_check_place : Option Addr} {sl_check_place : Array (Option Value)} {oc_check_place kV_check_place dc_check_place pm_check_place cd_check_place ct_check_place : Value}
    {f_steps : Addr} {od_steps an_steps : Option Addr} {sl_steps : Array (Option Value)} {oc_steps kV_steps dc_steps pm_steps cd_steps ct_steps : Value}
    {f_distance : Addr} {od_distance an_distance : Option Addr} {sl_distance : Array (Option Value)} {oc_distance kV_distance dc_distance pm_distance cd_distance ct_distance : Value}
    {f_l_pen : Addr} {od_l_pen an_l_pen : Option Addr} {sl_l_pen : Array (Option Value)} {oc_l_pen kV_l_pen dc_l_pen pm_l_pen cd_l_pen ct_l_pen : Value}
    {f_l_draw : Addr} {od_l_draw an_l_draw : Option Addr} {sl_l_draw : Array (Option Value)} {oc_l_draw kV_l_draw dc_l_draw pm_l_draw cd_l_draw ct_l_draw : Value}
    {f_l_pick : Addr} {od_l_pick an_l_pick : Option Addr} {sl_l_pick : Array (Option Value)} {oc_l_pick kV_l_pick dc_l_pick pm_l_pick cd_l_pick ct_l_pick : Value}
    {f_l_great : Addr} {od_l_great an_l_great : Option Addr} {sl_l_great : Array (Option Value)} {oc_l_great kV_l_great dc_l_great pm_l_great cd_l_great ct_l_great : Value}
    {f_l_signed : Addr} {od_l_signed an_l_signed : Option Addr} {sl_l_signed : Array (Option Value)} {oc_l_signed kV_l_signed dc_l_signed pm_l_signed cd_l_signed ct_l_signed : Value}
    {f_l_gone : Addr} {od_l_gone an_l_gone : Option Addr} {sl_l_gone : Array (Option Value)} {oc_l_gone kV_l_gone dc_l_gone pm_l_gone cd_l_gone ct_l_gone : Value}
    {f_l_place : Addr} {od_l_place an_l_place : Option Addr} {sl_l_place : Array (Option Value)} {oc_l_place kV_l_place dc_l_place pm_l_place cd_l_place ct_l_place : Value}
    {f_l_times : Addr} {od_l_times an_l_times : Option Addr} {sl_l_times : Array (Option Value)} {oc_l_times kV_l_times dc_l_times pm_l_times cd_l_times ct_l_times : Value}
    {f_l_far : Addr} {od_l_far an_l_far : Option Addr} {sl_l_far : Array (Option Value)} {oc_l_far kV_l_far dc_l_far pm_l_far cd_l_far ct_l_far : Value}
    {f_l_is_judged : Addr} {od_l_is_judged an_l_is_judged : Option Addr} {sl_l_is_judged : Array (Option Value)} {oc_l_is_judged kV_l_is_judged dc_l_is_judged pm_l_is_judged cd_l_is_judged ct_l_is_judged : Value}
    {f_l_ways : Addr} {od_l_ways an_l_ways : Option Addr} {sl_l_ways : Array (Option Value)} {oc_l_ways kV_l_ways dc_l_ways pm_l_ways cd_l_ways ct_l_ways : Value}
    {f_l_closed_right : Addr} {od_l_closed_right an_l_closed_right : Option Addr} {sl_l_closed_right : Array (Option Value)} {oc_l_closed_right kV_l_closed_right dc_l_closed_right pm_l_closed_right cd_l_closed_right ct_l_closed_right : Value}
    {f_law : Addr} {od_law an_law : Option Addr} {sl_law : Array (Option Value)} {oc_law kV_law dc_law pm_law cd_law ct_law : Value}
    {C_WalkError : Addr}
    {C_BadNumber : Addr}
    {C_BadPlace : Addr}
    {C_Place : Addr}
    {nm_WalkError qn_WalkError : Str} {NN_WalkError : Addr} {bs_WalkError sb_WalkError : List Value} {sn_WalkError : List Str} {ab_WalkError : Bool} {co_WalkError : Option Bool} {dd_WalkError : Option Addr} {m0_WalkError m1_WalkError m2_WalkError m3_WalkError m5_WalkError : Option Value}
    {nm_BadNumber qn_BadNumber : Str} {NN_BadNumber : Addr} {bs_BadNumber sb_BadNumber : List Value} {sn_BadNumber : List Str} {ab_BadNumber : Bool} {co_BadNumber : Option Bool} {dd_BadNumber : Option Addr} {m0_BadNumber m1_BadNumber m2_BadNumber m3_BadNumber m5_BadNumber : Option Value}
    {nm_BadPlace qn_BadPlace : Str} {NN_BadPlace : Addr} {bs_BadPlace sb_BadPlace : List Value} {sn_BadPlace : List Str} {ab_BadPlace : Bool} {co_BadPlace : Option Bool} {dd_BadPlace : Option Addr} {m0_BadPlace m1_BadPlace m2_BadPlace m3_BadPlace m5_BadPlace : Option Value}
    (X : K.In h) (G : h.Ns mainGlobals mg) (hfa : mg "law" = some (.ref fa))
    (g__wall : PySem.W.nsIn K mainGlobals "_wall" = some (some (.ref f__wall)))
    (l__wall : K.lookup f__wall = some ⟨oc__wall, od__wall, .func (PySem.W.fnOf "_wall" "_wall" (defArgs s__wall) (defBody s__wall) (defScope s__wall) .none kV__wall dc__wall pm__wall an__wall cd__wall ct__wall), sl__wall⟩)
    (c__wall : PySem.W.codeIn K cd__wall "_wall" = true)
    (k__wall : PySem.W.keepIn K (.ref f__wall) = true)
    (g_is_integer : PySem.W.nsIn K mainGlobals "is_integer" = some (some (.ref f_is_integer)))
    (l_is_integer : K.lookup f_is_integer = some ⟨oc_is_integer, od_is_integer, .func (PySem.W.fnOf "is_integer" "is_integer" (defArgs s_is_integer) (defBody s_is_integer) (defScope s_is_integer) .none kV_is_integer dc_is_integer pm_is_integer an_is_integer cd_is_integer ct_is_integer), sl_is_integer⟩)
    (c_is_integer : PySem.W.codeIn K cd_is_integer "is_integer" = true)
    (k_is_integer : PySem.W.keepIn K (.ref f_is_integer) = true)
    (g_check_integer : PySem.W.nsIn K mainGlobals "check_integer" = some (some (.ref f_check_integer)))
    (l_check_integer : K.lookup f_check_integer = some ⟨oc_check_integer, od_check_integer, .func (PySem.W.fnOf "check_integer" "check_integer" (defArgs s_check_integer) (defBody s_check_integer) (defScope s_check_integer) .none kV_check_integer dc_check_integer pm_check_integer an_check_integer cd_check_integer ct_check_integer), sl_check_integer⟩)
    (c_check_integer : PySem.W.codeIn K cd_check_integer "check_integer" = true)
    (k_check_integer : PySem.W.keepIn K (.ref f_check_integer) = true)
    (g_fewest_steps : PySem.W.nsIn K mainGlobals "fewest_steps" = some (some (.ref f_fewest_steps)))
    (l_fewest_steps : K.lookup f_fewest_steps = some ⟨oc_fewest_steps, od_fewest_steps, .func (PySem.W.fnOf "fewest_steps" "fewest_steps" (defArgs s_fewest_steps) (defBody s_fewest_steps) (defScope s_fewest_steps) .none kV_fewest_steps dc_fewest_steps pm_fewest_steps an_fewest_steps cd_fewest_steps ct_fewest_steps), sl_fewest_steps⟩)
    (c_fewest_steps : PySem.W.codeIn K cd_fewest_steps "fewest_steps" = true)
    (k_fewest_steps : PySem.W.keepIn K (.ref f_fewest_steps) = true)
    (g_quotient_up : PySem.W.nsIn K mainGlobals "quotient_up" = some (some (.ref f_quotient_up)))
    (l_quotient_up : K.lookup f_quotient_up = some ⟨oc_quotient_up, od_quotient_up, .func (PySem.W.fnOf "quotient_up" "quotient_up" (defArgs s_quotient_up) (defBody s_quotient_up) (defScope s_quotient_up) .none kV_quotient_up dc_quotient_up pm_quotient_up an_quotient_up cd_quotient_up ct_quotient_up), sl_quotient_up⟩)
    (c_quotient_up : PySem.W.codeIn K cd_quotient_up "quotient_up" = true)
    (k_quotient_up : PySem.W.keepIn K (.ref f_quotient_up) = true)
    (g_half_outline : PySem.W.nsIn K mainGlobals "half_outline" = some (some (.ref f_half_outline)))
    (l_half_outline : K.lookup f_half_outline = some ⟨oc_half_outline, od_half_outline, .func (PySem.W.fnOf "half_outline" "half_outline" (defArgs s_half_outline) (defBody s_half_outline) (defScope s_half_outline) .none kV_half_outline dc_half_outline pm_half_outline an_half_outline cd_half_outline ct_half_outline), sl_half_outline⟩)
    (c_half_outline : PySem.W.codeIn K cd_half_outline "half_outline" = true)
    (k_half_outline : PySem.W.keepIn K (.ref f_half_outline) = true)
    (g_check_place : PySem.W.nsIn K mainGlobals "check_place" = some (some (.ref f_check_place)))
    (l_check_place : K.lookup f_check_place = some ⟨oc_check_place, od_check_place, .func (PySem.W.fnOf "check_place" "check_place" (defArgs s_check_place) (defBody s_check_place) (defScope s_check_place) .none kV_check_place dc_check_place pm_check_place an_check_place cd_check_place ct_check_place), sl_check_place⟩)
    (c_check_place : PySem.W.codeIn K cd_check_place "check_place" = true)
    (k_check_place : PySem.W.keepIn K (.ref f_check_place) = true)
    (g_steps : PySem.W.nsIn K mainGlobals "steps" = some (some (.ref f_steps)))
    (l_steps : K.lookup f_steps = some ⟨oc_steps, od_steps, .func (PySem.W.fnOf "steps" "steps" (defArgs s_steps) (defBody s_steps) (defScope s_steps) .none kV_steps dc_steps pm_steps an_steps cd_steps ct_steps), sl_steps⟩)
    (c_steps : PySem.W.codeIn K cd_steps "steps" = true)
    (k_steps : PySem.W.keepIn K (.ref f_steps) = true)
    (g_distance : PySem.W.nsIn K mainGlobals "distance" = some (some (.ref f_distance)))
    (l_distance : K.lookup f_distance = some ⟨oc_distance, od_distance, .func (PySem.W.fnOf "distance" "distance" (defArgs s_distance) (defBody s_distance) (defScope s_distance) .none kV_distance dc_distance pm_distance an_distance cd_distance ct_distance), sl_distance⟩)
    (c_distance : PySem.W.codeIn K cd_distance "distance" = true)
    (k_distance : PySem.W.keepIn K (.ref f_distance) = true)
    (g_l_pen : PySem.W.nsIn K mainGlobals "_law_pen" = some (some (.ref f_l_pen)))
    (l_l_pen : K.lookup f_l_pen = some ⟨oc_l_pen, od_l_pen, .func (PySem.W.fnOf "_law_pen" "_law_pen" (defArgs s_l_pen) (defBody s_l_pen) (defScope s_l_pen) .none kV_l_pen dc_l_pen pm_l_pen an_l_pen cd_l_pen ct_l_pen), sl_l_pen⟩)
    (c_l_pen : PySem.W.codeIn K cd_l_pen "_law_pen" = true)
    (k_l_pen : PySem.W.keepIn K (.ref f_l_pen) = true)
    (g_l_draw : PySem.W.nsIn K mainGlobals "_law_draw" = some (some (.ref f_l_draw)))
    (l_l_draw : K.lookup f_l_draw = some ⟨oc_l_draw, od_l_draw, .func (PySem.W.fnOf "_law_draw" "_law_draw" (defArgs s_l_draw) (defBody s_l_draw) (defScope s_l_draw) .none kV_l_draw dc_l_draw pm_l_draw an_l_draw cd_l_draw ct_l_draw), sl_l_draw⟩)
    (c_l_draw : PySem.W.codeIn K cd_l_draw "_law_draw" = true)
    (k_l_draw : PySem.W.keepIn K (.ref f_l_draw) = true)
    (g_l_pick : PySem.W.nsIn K mainGlobals "_law_pick" = some (some (.ref f_l_pick)))
    (l_l_pick : K.lookup f_l_pick = some ⟨oc_l_pick, od_l_pick, .func (PySem.W.fnOf "_law_pick" "_law_pick" (defArgs s_l_pick) (defBody s_l_pick) (defScope s_l_pick) .none kV_l_pick dc_l_pick pm_l_pick an_l_pick cd_l_pick ct_l_pick), sl_l_pick⟩)
    (c_l_pick : PySem.W.codeIn K cd_l_pick "_law_pick" = true)
    (k_l_pick : PySem.W.keepIn K (.ref f_l_pick) = true)
    (g_l_great : PySem.W.nsIn K mainGlobals "_law_great" = some (some (.ref f_l_great)))
    (l_l_great : K.lookup f_l_great = some ⟨oc_l_great, od_l_great, .func (PySem.W.fnOf "_law_great" "_law_great" (defArgs s_l_great) (defBody s_l_great) (defScope s_l_great) .none kV_l_great dc_l_great pm_l_great an_l_great cd_l_great ct_l_great), sl_l_great⟩)
    (c_l_great : PySem.W.codeIn K cd_l_great "_law_great" = true)
    (k_l_great : PySem.W.keepIn K (.ref f_l_great) = true)
    (g_l_signed : PySem.W.nsIn K mainGlobals "_law_signed" = some (some (.ref f_l_signed)))
    (l_l_signed : K.lookup f_l_signed = some ⟨oc_l_signed, od_l_signed, .func (PySem.W.fnOf "_law_signed" "_law_signed" (defArgs s_l_signed) (defBody s_l_signed) (defScope s_l_signed) .none kV_l_signed dc_l_signed pm_l_signed an_l_signed cd_l_signed ct_l_signed), sl_l_signed⟩)
    (c_l_signed : PySem.W.codeIn K cd_l_signed "_law_signed" = true)
    (k_l_signed : PySem.W.keepIn K (.ref f_l_signed) = true)
    (g_l_gone : PySem.W.nsIn K mainGlobals "_law_gone" = some (some (.ref f_l_gone)))
    (l_l_gone : K.lookup f_l_gone = some ⟨oc_l_gone, od_l_gone, .func (PySem.W.fnOf "_law_gone" "_law_gone" (defArgs s_l_gone) (defBody s_l_gone) (defScope s_l_gone) .none kV_l_gone dc_l_gone pm_l_gone an_l_gone cd_l_gone ct_l_gone), sl_l_gone⟩)
    (c_l_gone : PySem.W.codeIn K cd_l_gone "_law_gone" = true)
    (k_l_gone : PySem.W.keepIn K (.ref f_l_gone) = true)
    (g_l_place : PySem.W.nsIn K mainGlobals "_law_place" = some (some (.ref f_l_place)))
    (l_l_place : K.lookup f_l_place = some ⟨oc_l_place, od_l_place, .func (PySem.W.fnOf "_law_place" "_law_place" (defArgs s_l_place) (defBody s_l_place) (defScope s_l_place) .none kV_l_place dc_l_place pm_l_place an_l_place cd_l_place ct_l_place), sl_l_place⟩)
    (c_l_place : PySem.W.codeIn K cd_l_place "_law_place" = true)
    (k_l_place : PySem.W.keepIn K (.ref f_l_place) = true)
    (g_l_times : PySem.W.nsIn K mainGlobals "_law_times" = some (some (.ref f_l_times)))
    (l_l_times : K.lookup f_l_times = some ⟨oc_l_times, od_l_times, .func (PySem.W.fnOf "_law_times" "_law_times" (defArgs s_l_times) (defBody s_l_times) (defScope s_l_times) .none kV_l_times dc_l_times pm_l_times an_l_times cd_l_times ct_l_times), sl_l_times⟩)
    (c_l_times : PySem.W.codeIn K cd_l_times "_law_times" = true)
    (k_l_times : PySem.W.keepIn K (.ref f_l_times) = true)
    (g_l_far : PySem.W.nsIn K mainGlobals "_law_far" = some (some (.ref f_l_far)))
    (l_l_far : K.lookup f_l_far = some ⟨oc_l_far, od_l_far, .func (PySem.W.fnOf "_law_far" "_law_far" (defArgs s_l_far) (defBody s_l_far) (defScope s_l_far) .none kV_l_far dc_l_far pm_l_far an_l_far cd_l_far ct_l_far), sl_l_far⟩)
    (c_l_far : PySem.W.codeIn K cd_l_far "_law_far" = true)
    (k_l_far : PySem.W.keepIn K (.ref f_l_far) = true)
    (g_l_is_judged : PySem.W.nsIn K mainGlobals "_law_is_judged" = some (some (.ref f_l_is_judged)))
    (l_l_is_judged : K.lookup f_l_is_judged = some ⟨oc_l_is_judged, od_l_is_judged, .func (PySem.W.fnOf "_law_is_judged" "_law_is_judged" (defArgs s_l_is_judged) (defBody s_l_is_judged) (defScope s_l_is_judged) .none kV_l_is_judged dc_l_is_judged pm_l_is_judged an_l_is_judged cd_l_is_judged ct_l_is_judged), sl_l_is_judged⟩)
    (c_l_is_judged : PySem.W.codeIn K cd_l_is_judged "_law_is_judged" = true)
    (k_l_is_judged : PySem.W.keepIn K (.ref f_l_is_judged) = true)
    (g_l_ways : PySem.W.nsIn K mainGlobals "_law_ways" = some (some (.ref f_l_ways)))
    (l_l_ways : K.lookup f_l_ways = some ⟨oc_l_ways, od_l_ways, .func (PySem.W.fnOf "_law_ways" "_law_ways" (defArgs s_l_ways) (defBody s_l_ways) (defScope s_l_ways) .none kV_l_ways dc_l_ways pm_l_ways an_l_ways cd_l_ways ct_l_ways), sl_l_ways⟩)
    (c_l_ways : PySem.W.codeIn K cd_l_ways "_law_ways" = true)
    (k_l_ways : PySem.W.keepIn K (.ref f_l_ways) = true)
    (g_l_closed_right : PySem.W.nsIn K mainGlobals "_law_closed_right" = some (some (.ref f_l_closed_right)))
    (l_l_closed_right : K.lookup f_l_closed_right = some ⟨oc_l_closed_right, od_l_closed_right, .func (PySem.W.fnOf "_law_closed_right" "_law_closed_right" (defArgs s_l_closed_right) (defBody s_l_closed_right) (defScope s_l_closed_right) .none kV_l_closed_right dc_l_closed_right pm_l_closed_right an_l_closed_right cd_l_closed_right ct_l_closed_right), sl_l_closed_right⟩)
    (c_l_closed_right : PySem.W.codeIn K cd_l_closed_right "_law_closed_right" = true)
    (k_l_closed_right : PySem.W.keepIn K (.ref f_l_closed_right) = true)
    (g_law : PySem.W.nsIn K mainGlobals "law" = some (some (.ref f_law)))
    (l_law : K.lookup f_law = some ⟨oc_law, od_law, .func (PySem.W.fnOf "law" "law" (defArgs s_law) (defBody s_law) (defScope s_law) .none kV_law dc_law pm_law an_law cd_law ct_law), sl_law⟩)
    (c_law : PySem.W.codeIn K cd_law "law" = true)
    (k_law : PySem.W.keepIn K (.ref f_law) = true)
    (g_C_WalkError : PySem.W.nsIn K mainGlobals "WalkError" = some (some (.ref C_WalkError)))
    (sa_WalkError : PySem.W.findIn K (.ref C_WalkError) "__setattr__" = some (some (.builtin "object.__setattr__")))
    (ex_WalkError : PySem.W.subIn K (.ref C_WalkError) (.type "BaseException") = some true)
    (ty_WalkError : PySem.W.typeIn K (.ref C_WalkError) = some (.type "type"))
    (kc_WalkError : PySem.W.keepIn K (.ref C_WalkError) = true)
    (ga_WalkError : PySem.W.findIn K (.ref C_WalkError) "__getattribute__" = some (some (.builtin "BaseException.__getattribute__")))
    (gg_WalkError : PySem.W.findIn K (.ref C_WalkError) "__getattr__" = some none)
    (hd_WalkError : PySem.W.hasDictIn K C_WalkError = true)
    (ic_WalkError : PySem.W.isClsIn K C_WalkError = true)
    (x_WalkError : K.lookup C_WalkError = some (excClassObj nm_WalkError qn_WalkError C_WalkError NN_WalkError bs_WalkError [.type "ValueError", .type "Exception", .type "BaseException", .type "object"] true sn_WalkError sb_WalkError ab_WalkError co_WalkError dd_WalkError m0_WalkError m1_WalkError m2_WalkError m3_WalkError m5_WalkError "ValueError.__new__"))
    (g_C_BadNumber : PySem.W.nsIn K mainGlobals "BadNumber" = some (some (.ref C_BadNumber)))
    (m_BadNumber_init : PySem.W.findIn K (.ref C_BadNumber) "__init__" = some (some (.ref f_BadNumber_init)))
    (i_BadNumber_init : PySem.W.isFn K (.ref f_BadNumber_init) = true)
    (l_BadNumber_init : K.lookup f_BadNumber_init = some ⟨oc_BadNumber_init, od_BadNumber_init, .func (PySem.W.fnOf "__init__" "BadNumber.__init__" (defArgs s_BadNumber_init) (defBody s_BadNumber_init) (defScope s_BadNumber_init) .none kV_BadNumber_init dc_BadNumber_init pm_BadNumber_init an_BadNumber_init cd_BadNumber_init ct_BadNumber_init), sl_BadNumber_init⟩)
    (c_BadNumber_init : PySem.W.codeIn K cd_BadNumber_init "BadNumber.__init__" = true)
    (k_BadNumber_init : PySem.W.keepIn K (.ref f_BadNumber_init) = true)
    (sa_BadNumber : PySem.W.findIn K (.ref C_BadNumber) "__setattr__" = some (some (.builtin "object.__setattr__")))
    (ex_BadNumber : PySem.W.subIn K (.ref C_BadNumber) (.type "BaseException") = some true)
    (ty_BadNumber : PySem.W.typeIn K (.ref C_BadNumber) = some (.type "type"))
    (kc_BadNumber : PySem.W.keepIn K (.ref C_BadNumber) = true)
    (ga_BadNumber : PySem.W.findIn K (.ref C_BadNumber) "__getattribute__" = some (some (.builtin "BaseException.__getattribute__")))
    (gg_BadNumber : PySem.W.findIn K (.ref C_BadNumber) "__getattr__" = some none)
    (hd_BadNumber : PySem.W.hasDictIn K C_BadNumber = true)
    (ic_BadNumber : PySem.W.isClsIn K C_BadNumber = true)
    (x_BadNumber : K.lookup C_BadNumber = some (excClassObj nm_BadNumber qn_BadNumber C_BadNumber NN_BadNumber bs_BadNumber [.ref C_WalkError, .type "ValueError", .type "Exception", .type "BaseException", .type "object"] true sn_BadNumber sb_BadNumber ab_BadNumber co_BadNumber dd_BadNumber m0_BadNumber m1_BadNumber m2_BadNumber m3_BadNumber m5_BadNumber "ValueError.__new__"))
    (na_BadNumber_value : PySem.W.findIn K (.ref C_BadNumber) "value" = some none)
    (g_C_BadPlace : PySem.W.nsIn K mainGlobals "BadPlace" = some (some (.ref C_BadPlace)))
    (m_BadPlace_init : PySem.W.findIn K (.ref C_BadPlace) "__init__" = some (some (.ref f_BadPlace_init)))
    (i_BadPlace_init : PySem.W.isFn K (.ref f_BadPlace_init) = true)
    (l_BadPlace_init : K.lookup f_BadPlace_init = some ⟨oc_BadPlace_init, od_BadPlace_init, .func (PySem.W.fnOf "__init__" "BadPlace.__init__" (defArgs s_BadPlace_init) (defBody s_BadPlace_init) (defScope s_BadPlace_init) .none kV_BadPlace_init dc_BadPlace_init pm_BadPlace_init an_BadPlace_init cd_BadPlace_init ct_BadPlace_init), sl_BadPlace_init⟩)
    (c_BadPlace_init : PySem.W.codeIn K cd_BadPlace_init "BadPlace.__init__" = true)
    (k_BadPlace_init : PySem.W.keepIn K (.ref f_BadPlace_init) = true)
    (sa_BadPlace : PySem.W.findIn K (.ref C_BadPlace) "__setattr__" = some (some (.builtin "object.__setattr__")))
    (ex_BadPlace : PySem.W.subIn K (.ref C_BadPlace) (.type "BaseException") = some true)
    (ty_BadPlace : PySem.W.typeIn K (.ref C_BadPlace) = some (.type "type"))
    (kc_BadPlace : PySem.W.keepIn K (.ref C_BadPlace) = true)
    (ga_BadPlace : PySem.W.findIn K (.ref C_BadPlace) "__getattribute__" = some (some (.builtin "BaseException.__getattribute__")))
    (gg_BadPlace : PySem.W.findIn K (.ref C_BadPlace) "__getattr__" = some none)
    (hd_BadPlace : PySem.W.hasDictIn K C_BadPlace = true)
    (ic_BadPlace : PySem.W.isClsIn K C_BadPlace = true)
    (x_BadPlace : K.lookup C_BadPlace = some (excClassObj nm_BadPlace qn_BadPlace C_BadPlace NN_BadPlace bs_BadPlace [.ref C_WalkError, .type "ValueError", .type "Exception", .type "BaseException", .type "object"] true sn_BadPlace sb_BadPlace ab_BadPlace co_BadPlace dd_BadPlace m0_BadPlace m1_BadPlace m2_BadPlace m3_BadPlace m5_BadPlace "ValueError.__new__"))
    (na_BadPlace_value : PySem.W.findIn K (.ref C_BadPlace) "value" = some none)
    (g_C_Place : PySem.W.nsIn K mainGlobals "Place" = some (some (.ref C_Place)))
    (pg_Place : PySem.W.plainGet K C_Place Str.empty = true)
    (hd_Place : PySem.W.hasDictIn K C_Place = true)
    (po_Place : PySem.W.plainOver K C_Place = true)
    (sa_Place : PySem.W.findIn K (.ref C_Place) "__setattr__" = some (some (.builtin "object.__setattr__")))
    (ca_Place : PySem.W.findIn K (.ref C_Place) "__class__" = some (some (.builtin "object.__class__")))
    (cm_Place : PySem.W.mroIn K C_Place (.type "object") = some true)
    (na_Place_x : PySem.W.findIn K (.ref C_Place) "x" = some none)
    (na_Place_y : PySem.W.findIn K (.ref C_Place) "y" = some none)
    (na_Place_area : PySem.W.findIn K (.ref C_Place) "area" = some none)
    (m_Place_init : PySem.W.findIn K (.ref C_Place) "__init__" = some (some (.ref f_Place_init)))
    (i_Place_init : PySem.W.isFn K (.ref f_Place_init) = true)
    (l_Place_init : K.lookup f_Place_init = some ⟨oc_Place_init, od_Place_init, .func (PySem.W.fnOf "__init__" "Place.__init__" (defArgs s_Place_init) (defBody s_Place_init) (defScope s_Place_init) .none kV_Place_init dc_Place_init pm_Place_init an_Place_init cd_Place_init ct_Place_init), sl_Place_init⟩)
    (c_Place_init : PySem.W.codeIn K cd_Place_init "Place.__init__" = true)
    (k_Place_init : PySem.W.keepIn K (.ref f_Place_init) = true)
    (mk_Place : PySem.W.makesIn K C_Place = true)
    (kc_Place : PySem.W.keepIn K (.ref C_Place) = true)
    (m_Place_eq : PySem.W.findIn K (.ref C_Place) "__eq__" = some (some (.ref f_Place_eq)))
    (i_Place_eq : PySem.W.isFn K (.ref f_Place_eq) = true)
    (l_Place_eq : K.lookup f_Place_eq = some ⟨oc_Place_eq, od_Place_eq, .func (PySem.W.fnOf "__eq__" "Place.__eq__" (defArgs s_Place_eq) (defBody s_Place_eq) (defScope s_Place_eq) .none kV_Place_eq dc_Place_eq pm_Place_eq an_Place_eq cd_Place_eq ct_Place_eq), sl_Place_eq⟩)
    (c_Place_eq : PySem.W.codeIn K cd_Place_eq "Place.__eq__" = true)
    (k_Place_eq : PySem.W.keepIn K (.ref f_Place_eq) = true)
    (ne_Place : PySem.W.findIn K (.ref C_Place) "__ne__" = some (some (.builtin "object.__ne__")))
    (m_Place_mul : PySem.W.findIn K (.ref C_Place) "__mul__" = some (some (.ref f_Place_mul)))
    (i_Place_mul : PySem.W.isFn K (.ref f_Place_mul) = true)
    (l_Place_mul : K.lookup f_Place_mul = some ⟨oc_Place_mul, od_Place_mul, .func (PySem.W.fnOf "__mul__" "Place.__mul__" (defArgs s_Place_mul) (defBody s_Place_mul) (defScope s_Place_mul) .none kV_Place_mul dc_Place_mul pm_Place_mul an_Place_mul cd_Place_mul ct_Place_mul), sl_Place_mul⟩)
    (c_Place_mul : PySem.W.codeIn K cd_Place_mul "Place.__mul__" = true)
    (k_Place_mul : PySem.W.keepIn K (.ref f_Place_mul) = true)
    (sf_Place_Mult : PySem.W.selfFirst K C_Place = true)
    (ro_Place_Mult : PySem.W.findIn K (.ref C_Place) (PySem.dunderR (Operator.info .Mult).2) = some none)
    (m_Place_invert : PySem.W.findIn K (.ref C_Place) "__invert__" = some (some (.ref f_Place_invert)))
    (i_Place_invert : PySem.W.isFn K (.ref f_Place_invert) = true)
    (l_Place_invert : K.lookup f_Place_invert = some ⟨oc_Place_invert, od_Place_invert, .func (PySem.W.fnOf "__invert__" "Place.__invert__" (defArgs s_Place_invert) (defBody s_Place_invert) (defScope s_Place_invert) .none kV_Place_invert dc_Place_invert pm_Place_invert an_Place_invert cd_Place_invert ct_Place_invert), sl_Place_invert⟩)
    (c_Place_invert : PySem.W.codeIn K cd_Place_invert "Place.__invert__" = true)
    (k_Place_invert : PySem.W.keepIn K (.ref f_Place_invert) = true)
    (m_Place_power : PySem.W.findIn K (.ref C_Place) "power" = some (some (.ref f_Place_power)))
    (i_Place_power : PySem.W.isFn K (.ref f_Place_power) = true)
    (l_Place_power : K.lookup f_Place_power = some ⟨oc_Place_power, od_Place_power, .func (PySem.W.fnOf "power" "Place.power" (defArgs s_Place_power) (defBody s_Place_power) (defScope s_Place_power) .none kV_Place_power dc_Place_power pm_Place_power an_Place_power cd_Place_power ct_Place_power), sl_Place_power⟩)
    (c_Place_power : PySem.W.codeIn K cd_Place_power "Place.power" = true)
    (k_Place_power : PySem.W.keepIn K (.ref f_Place_power) = true)
    (m_Place_is_home : PySem.W.findIn K (.ref C_Place) "is_home" = some (some (.ref f_Place_is_home)))
    (i_Place_is_home : PySem.W.isFn K (.ref f_Place_is_home) = true)
    (l_Place_is_home : K.lookup f_Place_is_home = some ⟨oc_Place_is_home, od_Place_is_home, .func (PySem.W.fnOf "is_home" "Place.is_home" (defArgs s_Place_is_home) (defBody s_Place_is_home) (defScope s_Place_is_home) .none kV_Place_is_home dc_Place_is_home pm_Place_is_home an_Place_is_home cd_Place_is_home ct_Place_is_home), sl_Place_is_home⟩)
    (c_Place_is_home : PySem.W.codeIn K cd_Place_is_home "Place.is_home" = true)
    (k_Place_is_home : PySem.W.keepIn K (.ref f_Place_is_home) = true)
    (m_Place_lifted : PySem.W.findIn K (.ref C_Place) "lifted" = some (some (.ref f_Place_lifted)))
    (i_Place_lifted : PySem.W.isFn K (.ref f_Place_lifted) = true)
    (l_Place_lifted : K.lookup f_Place_lifted = some ⟨oc_Place_lifted, od_Place_lifted, .func (PySem.W.fnOf "lifted" "Place.lifted" (defArgs s_Place_lifted) (defBody s_Place_lifted) (defScope s_Place_lifted) .none kV_Place_lifted dc_Place_lifted pm_Place_lifted an_Place_lifted cd_Place_lifted ct_Place_lifted), sl_Place_lifted⟩)
    (c_Place_lifted : PySem.W.codeIn K cd_Place_lifted "Place.lifted" = true)
    (k_Place_lifted : PySem.W.keepIn K (.ref f_Place_lifted) = true)
    (m_Place_twist : PySem.W.findIn K (.ref C_Place) "twist" = some (some (.ref f_Place_twist)))
    (i_Place_twist : PySem.W.isFn K (.ref f_Place_twist) = true)
    (l_Place_twist : K.lookup f_Place_twist = some ⟨oc_Place_twist, od_Place_twist, .func (PySem.W.fnOf "twist" "Place.twist" (defArgs s_Place_twist) (defBody s_Place_twist) (defScope s_Place_twist) .none kV_Place_twist dc_Place_twist pm_Place_twist an_Place_twist cd_Place_twist ct_Place_twist), sl_Place_twist⟩)
    (c_Place_twist : PySem.W.codeIn K cd_Place_twist "Place.twist" = true)
    (k_Place_twist : PySem.W.keepIn K (.ref f_Place_twist) = true)
    (cn : PySem.W.specialIn K (.builtin "object.__class__") "__get__" = some (some (.builtin "getset_descriptor.__get__")))
    (ct : PySem.W.takesIn K (.builtin "object.__class__") = some true)
    (io_Place_int : PySem.W.kitOne K (.ref C_Place) (.type "int") = some false)
    (io_Place_bool : PySem.W.kitOne K (.ref C_Place) (.type "bool") = some false)
    (is_NoneType_Place : PySem.W.kitOne K (.type "NoneType") (.ref C_Place) = some false)
    (sb_NoneType_Place : PySem.W.subIn K (.type "NoneType") (.ref C_Place) = some false)
    (is_bool_Place : PySem.W.kitOne K (.type "bool") (.ref C_Place) = some false)
    (sb_bool_Place : PySem.W.subIn K (.type "bool") (.ref C_Place) = some false)
    (is_int_Place : PySem.W.kitOne K (.type "int") (.ref C_Place) = some false)
    (sb_int_Place : PySem.W.subIn K (.type "int") (.ref C_Place) = some false)
    (is_str_Place : PySem.W.kitOne K (.type "str") (.ref C_Place) = some false)
    (sb_str_Place : PySem.W.subIn K (.type "str") (.ref C_Place) = some false)
    (is_list_Place : PySem.W.kitOne K (.type "list") (.ref C_Place) = some false)
    (sb_list_Place : PySem.W.subIn K (.type "list") (.ref C_Place) = some false)
    (is_tuple_Place : PySem.W.kitOne K (.type "tuple") (.ref C_Place) = some false)
    (sb_tuple_Place : PySem.W.subIn K (.type "tuple") (.ref C_Place) = some false)
    (is_dict_Place : PySem.W.kitOne K (.type "dict") (.ref C_Place) = some false)
    (sb_dict_Place : PySem.W.subIn K (.type "dict") (.ref C_Place) = some false)
    (n_abs : PySem.W.nsIn K mainGlobals "abs" = some none)
    (n_bool : PySem.W.nsIn K mainGlobals "bool" = some none)
    (n_int : PySem.W.nsIn K mainGlobals "int" = some none)
    (n_isinstance : PySem.W.nsIn K mainGlobals "isinstance" = some none)
    (n_len : PySem.W.nsIn K mainGlobals "len" = some none)
    (n_list : PySem.W.nsIn K mainGlobals "list" = some none)
    (n_max : PySem.W.nsIn K mainGlobals "max" = some none)
    (n_min : PySem.W.nsIn K mainGlobals "min" = some none)
    (n_range : PySem.W.nsIn K mainGlobals "range" = some none)
    (mi_isqrt : PySem.W.nsIn K mainGlobals "isqrt" = some (some (.builtin "math.isqrt"))) {goal : Prop} (kk : ∀ T : Tx K mg, T.a_law = fa → goal) : goal := by
  refine kk { a__wall := (f__wall), d__wall := (_), F__wall := (fun_mk (st := s__wall) l__wall c__wall k__wall), b__wall := ((fun_mk (st := s__wall) l__wall c__wall k__wall).binds (ps := P__wall) fun _ _ _ _ _ _ us hl => match us, hl with | [_], _ => rfl), g__wall := (PySem.W.mg_of X G g__wall), a_is_integer := (f_is_integer), d_is_integer := (_), F_is_integer := (fun_mk (st := s_is_integer) l_is_integer c_is_integer k_is_integer), b_is_integer := ((fun_mk (st := s_is_integer) l_is_integer c_is_integer k_is_integer).binds (ps := P_is_integer) fun _ _ _ _ _ _ us hl => match us, hl with | [_], _ => rfl), g_is_integer := (PySem.W.mg_of X G g_is_integer), a_check_integer := (f_check_integer), d_check_integer := (_), F_check_integer := (fun_mk (st := s_check_integer) l_check_integer c_check_integer k_check_integer), b_check_integer := ((fun_mk (st := s_check_integer) l_check_integer c_check_integer k_check_integer).binds (ps := P_check_integer) fun _ _ _ _ _ _ us hl => match us, hl with | [_], _ => rfl), g_check_integer := (PySem.W.mg_of X G g_check_integer), a_fewest_steps := (f_fewest_steps), d_fewest_steps := (_), F_fewest_steps := (fun_mk (st := s_fewest_steps) l_fewest_steps c_fewest_steps k_fewest_steps), b_fewest_steps := ((fun_mk (st := s_fewest_steps) l_fewest_steps c_fewest_steps k_fewest_steps).binds (ps := P_fewest_steps) fun _ _ _ _ _ _ us hl => match us, hl with | [_], _ => rfl), g_fewest_steps := (PySem.W.mg_of X G g_fewest_steps), a_quotient_up := (f_quotient_up), d_quotient_up := (_), F_quotient_up := (fun_mk (st := s_quotient_up) l_quotient_up c_quotient_up k_quotient_up), b_quotient_up := ((fun_mk (st := s_quotient_up) l_quotient_up c_quotient_up k_quotient_up).binds (ps := P_quotient_up) fun _ _ _ _ _ _ us hl => match us, hl with | [_, _], _ => rfl), g_quotient_up := (PySem.W.mg_of X G g_quotient_up), a_half_outline := (f_half_outline), d_half_outline := (_), F_half_outline := (fun_mk (st := s_half_outline) l_half_outline c_half_outline k_half_outline), b_half_outline := ((fun_mk (st := s_half_outline) l_half_outline c_half_outline k_half_outline).binds (ps := P_half_outline) fun _ _ _ _ _ _ us hl => match us, hl with | [_], _ => rfl), g_half_outline := (PySem.W.mg_of X G g_half_outline), a_check_place := (f_check_place), d_check_place := (_), F_check_place := (fun_mk (st := s_check_place) l_check_place c_check_place k_check_place), b_check_place := ((fun_mk (st := s_check_place) l_check_place c_check_place k_check_place).binds (ps := P_check_place) fun _ _ _ _ _ _ us hl => match us, hl with | [_], _ => rfl), g_check_place := (PySem.W.mg_of X G g_check_place), a_steps := (f_steps), d_steps := (_), F_steps := (fun_mk (st := s_steps) l_steps c_steps k_steps), b_steps := ((fun_mk (st := s_steps) l_steps c_steps k_steps).binds (ps := P_steps) fun _ _ _ _ _ _ us hl => match us, hl with | [_], _ => rfl), g_steps := (PySem.W.mg_of X G g_steps), a_distance := (f_distance), d_distance := (_), F_distance := (fun_mk (st := s_distance) l_distance c_distance k_distance), b_distance := ((fun_mk (st := s_distance) l_distance c_distance k_distance).binds (ps := P_distance) fun _ _ _ _ _ _ us hl => match us, hl with | [_, _], _ => rfl), g_distance := (PySem.W.mg_of X G g_distance), a_l_pen := (f_l_pen), d_l_pen := (_), F_l_pen := (fun_mk (st := s_l_pen) l_l_pen c_l_pen k_l_pen), b_l_pen := ((fun_mk (st := s_l_pen) l_l_pen c_l_pen k_l_pen).binds (ps := P_l_pen) fun _ _ _ _ _ _ us hl => match us, hl with | [_], _ => rfl), g_l_pen := (PySem.W.mg_of X G g_l_pen), a_l_draw := (f_l_draw), d_l_draw := (_), F_l_draw := (fun_mk (st := s_l_draw) l_l_draw c_l_draw k_l_draw), b_l_draw := ((fun_mk (st := s_l_draw) l_l_draw c_l_draw k_l_draw).binds (ps := P_l_draw) fun _ _ _ _ _ _ us hl => match us, hl with | [_, _], _ => rfl), g_l_draw := (PySem.W.mg_of X G g_l_draw), a_l_pick := (f_l_pick), d_l_pick := (_), F_l_pick := (fun_mk (st := s_l_pick) l_l_pick c_l_pick k_l_pick), b_l_pick := ((fun_mk (st := s_l_pick) l_l_pick c_l_pick k_l_pick).binds (ps := P_l_pick) fun _ _ _ _ _ _ us hl => match us, hl with | [_, _], _ => rfl), g_l_pick := (PySem.W.mg_of X G g_l_pick), a_l_great := (f_l_great), d_l_great := (_), F_l_great := (fun_mk (st := s_l_great) l_l_great c_l_great k_l_great), b_l_great := ((fun_mk (st := s_l_great) l_l_great c_l_great k_l_great).binds (ps := P_l_great) fun _ _ _ _ _ _ us hl => match us, hl with | [_, _], _ => rfl), g_l_great := (PySem.W.mg_of X G g_l_great), a_l_signed := (f_l_signed), d_l_signed := (_), F_l_signed := (fun_mk (st := s_l_signed) l_l_signed c_l_signed k_l_signed), b_l_signed := ((fun_mk (st := s_l_signed) l_l_signed c_l_signed k_l_signed).binds (ps := P_l_signed) fun _ _ _ _ _ _ us hl => match us, hl with | [_, _], _ => rfl), g_l_signed := (PySem.W.mg_of X G g_l_signed), a_l_gone := (f_l_gone), d_l_gone := (_), F_l_gone := (fun_mk (st := s_l_gone) l_l_gone c_l_gone k_l_gone), b_l_gone := ((fun_mk (st := s_l_gone) l_l_gone c_l_gone k_l_gone).binds (ps := P_l_gone) fun _ _ _ _ _ _ us hl => match us, hl with | [_, _, _], _ => rfl), g_l_gone := (PySem.W.mg_of X G g_l_gone), a_l_place := (f_l_place), d_l_place := (_), F_l_place := (fun_mk (st := s_l_place) l_l_place c_l_place k_l_place), b_l_place := ((fun_mk (st := s_l_place) l_l_place c_l_place k_l_place).binds (ps := P_l_place) fun _ _ _ _ _ _ us hl => match us, hl with | [_], _ => rfl), g_l_place := (PySem.W.mg_of X G g_l_place), a_l_times := (f_l_times), d_l_times := (_), F_l_times := (fun_mk (st := s_l_times) l_l_times c_l_times k_l_times), b_l_times := ((fun_mk (st := s_l_times) l_l_times c_l_times k_l_times).binds (ps := P_l_times) fun _ _ _ _ _ _ us hl => match us, hl with | [_, _], _ => rfl), g_l_times := (PySem.W.mg_of X G g_l_times), a_l_far := (f_l_far), d_l_far := (_), F_l_far := (fun_mk (st := s_l_far) l_l_far c_l_far k_l_far), b_l_far := ((fun_mk (st := s_l_far) l_l_far c_l_far k_l_far).binds (ps := P_l_far) fun _ _ _ _ _ _ us hl => match us, hl with | [_, _], _ => rfl), g_l_far := (PySem.W.mg_of X G g_l_far), a_l_is_judged := (f_l_is_judged), d_l_is_judged := (_), F_l_is_judged := (fun_mk (st := s_l_is_judged) l_l_is_judged c_l_is_judged k_l_is_judged), b_l_is_judged := ((fun_mk (st := s_l_is_judged) l_l_is_judged c_l_is_judged k_l_is_judged).binds (ps := P_l_is_judged) fun _ _ _ _ _ _ us hl => match us, hl with | [_], _ => rfl), g_l_is_judged := (PySem.W.mg_of X G g_l_is_judged), a_l_ways := (f_l_ways), d_l_ways := (_), F_l_ways := (fun_mk (st := s_l_ways) l_l_ways c_l_ways k_l_ways), b_l_ways := ((fun_mk (st := s_l_ways) l_l_ways c_l_ways k_l_ways).binds (ps := P_l_ways) fun _ _ _ _ _ _ us hl => match us, hl with | [_], _ => rfl), g_l_ways := (PySem.W.mg_of X G g_l_ways), a_l_closed_right := (f_l_closed_right), d_l_closed_right := (_), F_l_closed_right := (fun_mk (st := s_l_closed_right) l_l_closed_right c_l_closed_right k_l_closed_right), b_l_closed_right := ((fun_mk (st := s_l_closed_right) l_l_closed_right c_l_closed_right k_l_closed_right).binds (ps := P_l_closed_right) fun _ _ _ _ _ _ us hl => match us, hl with | [_], _ => rfl), g_l_closed_right := (PySem.W.mg_of X G g_l_closed_right), a_law := (f_law), d_law := (_), F_law := (fun_mk (st := s_law) l_law c_law k_law), b_law := ((fun_mk (st := s_law) l_law c_law k_law).binds (ps := P_law) fun _ _ _ _ _ _ us hl => match us, hl with | [_], _ => rfl), g_law := (PySem.W.mg_of X G g_law), C_WalkError := (C_WalkError), g_C_WalkError := (PySem.W.mg_of X G g_C_WalkError), X_WalkError := (⟨⟨nm_WalkError, qn_WalkError, NN_WalkError, bs_WalkError, _, sn_WalkError, sb_WalkError, ab_WalkError, co_WalkError, dd_WalkError, m0_WalkError, m1_WalkError, m2_WalkError, m3_WalkError, m5_WalkError, x_WalkError, rfl⟩, sa_WalkError, ex_WalkError, ty_WalkError, kc_WalkError⟩), Y_WalkError := (⟨ga_WalkError, gg_WalkError, ex_WalkError, hd_WalkError⟩), C_BadNumber := (C_BadNumber), g_C_BadNumber := (PySem.W.mg_of X G g_C_BadNumber), a_BadNumber_init := (f_BadNumber_init), d_BadNumber_init := (_), F_BadNumber_init := (fun_mk (st := s_BadNumber_init) l_BadNumber_init c_BadNumber_init k_BadNumber_init), b_BadNumber_init := ((fun_mk (st := s_BadNumber_init) l_BadNumber_init c_BadNumber_init k_BadNumber_init).binds (ps := P_BadNumber_init) fun _ _ _ _ _ _ us hl => match us, hl with | [_, _], _ => rfl), X_BadNumber := (⟨⟨nm_BadNumber, qn_BadNumber, NN_BadNumber, bs_BadNumber, _, sn_BadNumber, sb_BadNumber, ab_BadNumber, co_BadNumber, dd_BadNumber, m0_BadNumber, m1_BadNumber, m2_BadNumber, m3_BadNumber, m5_BadNumber, x_BadNumber, rfl⟩, sa_BadNumber, ex_BadNumber, ty_BadNumber, kc_BadNumber⟩), Y_BadNumber := (⟨ga_BadNumber, gg_BadNumber, ex_BadNumber, hd_BadNumber⟩), ei_BadNumber := (m_BadNumber_init), et_BadNumber := (beq_iff_eq.mp i_BadNumber_init), na_BadNumber_value := (na_BadNumber_value), C_BadPlace := (C_BadPlace), g_C_BadPlace := (PySem.W.mg_of X G g_C_BadPlace), a_BadPlace_init := (f_BadPlace_init), d_BadPlace_init := (_), F_BadPlace_init := (fun_mk (st := s_BadPlace_init) l_BadPlace_init c_BadPlace_init k_BadPlace_init), b_BadPlace_init := ((fun_mk (st := s_BadPlace_init) l_BadPlace_init c_BadPlace_init k_BadPlace_init).binds (ps := P_BadPlace_init) fun _ _ _ _ _ _ us hl => match us, hl with | [_, _], _ => rfl), X_BadPlace := (⟨⟨nm_BadPlace, qn_BadPlace, NN_BadPlace, bs_BadPlace, _, sn_BadPlace, sb_BadPlace, ab_BadPlace, co_BadPlace, dd_BadPlace, m0_BadPlace, m1_BadPlace, m2_BadPlace, m3_BadPlace, m5_BadPlace, x_BadPlace, rfl⟩, sa_BadPlace, ex_BadPlace, ty_BadPlace, kc_BadPlace⟩), Y_BadPlace := (⟨ga_BadPlace, gg_BadPlace, ex_BadPlace, hd_BadPlace⟩), ei_BadPlace := (m_BadPlace_init), et_BadPlace := (beq_iff_eq.mp i_BadPlace_init), na_BadPlace_value := (na_BadPlace_value), C_Place := (C_Place), g_C_Place := (PySem.W.mg_of X G g_C_Place), cl_Place := (⟨pg_Place, hd_Place, po_Place, sa_Place⟩), ca_Place := (ca_Place), cm_Place := (cm_Place), na_Place_x := (na_Place_x), na_Place_y := (na_Place_y), na_Place_area := (na_Place_area), a_Place_init := (f_Place_init), d_Place_init := (_), F_Place_init := (fun_mk (st := s_Place_init) l_Place_init c_Place_init k_Place_init), b_Place_init := ((fun_mk (st := s_Place_init) l_Place_init c_Place_init k_Place_init).binds (ps := P_Place_init) fun _ _ _ _ _ _ us hl => match us, hl with | [_, _, _, _], _ => rfl), M_Place := (⟨mk_Place, m_Place_init, i_Place_init, kc_Place⟩), a_Place_eq := (f_Place_eq), d_Place_eq := (_), F_Place_eq := (fun_mk (st := s_Place_eq) l_Place_eq c_Place_eq k_Place_eq), b_Place_eq := ((fun_mk (st := s_Place_eq) l_Place_eq c_Place_eq k_Place_eq).binds (ps := P_Place_eq) fun _ _ _ _ _ _ us hl => match us, hl with | [_, _], _ => rfl), E_Place := (⟨m_Place_eq, i_Place_eq, ne_Place, cm_Place⟩), a_Place_mul := (f_Place_mul), d_Place_mul := (_), F_Place_mul := (fun_mk (st := s_Place_mul) l_Place_mul c_Place_mul k_Place_mul), b_Place_mul := ((fun_mk (st := s_Place_mul) l_Place_mul c_Place_mul k_Place_mul).binds (ps := P_Place_mul) fun _ _ _ _ _ _ us hl => match us, hl with | [_, _], _ => rfl), O_Place_Mult := (⟨sf_Place_Mult, m_Place_mul, ro_Place_Mult, i_Place_mul⟩), a_Place_invert := (f_Place_invert), d_Place_invert := (_), F_Place_invert := (fun_mk (st := s_Place_invert) l_Place_invert c_Place_invert k_Place_invert), b_Place_invert := ((fun_mk (st := s_Place_invert) l_Place_invert c_Place_invert k_Place_invert).binds (ps := P_Place_invert) fun _ _ _ _ _ _ us hl => match us, hl with | [_], _ => rfl), m_Place_invert := (m_Place_invert), i_Place_invert := (i_Place_invert), a_Place_power := (f_Place_power), d_Place_power := (_), F_Place_power := (fun_mk (st := s_Place_power) l_Place_power c_Place_power k_Place_power), b_Place_power := ((fun_mk (st := s_Place_power) l_Place_power c_Place_power k_Place_power).binds (ps := P_Place_power) fun _ _ _ _ _ _ us hl => match us, hl with | [_, _], _ => rfl), M_Place_power := (⟨m_Place_power, i_Place_power, k_Place_power⟩), a_Place_is_home := (f_Place_is_home), d_Place_is_home := (_), F_Place_is_home := (fun_mk (st := s_Place_is_home) l_Place_is_home c_Place_is_home k_Place_is_home), b_Place_is_home := ((fun_mk (st := s_Place_is_home) l_Place_is_home c_Place_is_home k_Place_is_home).binds (ps := P_Place_is_home) fun _ _ _ _ _ _ us hl => match us, hl with | [_], _ => rfl), M_Place_is_home := (⟨m_Place_is_home, i_Place_is_home, k_Place_is_home⟩), a_Place_lifted := (f_Place_lifted), d_Place_lifted := (_), F_Place_lifted := (fun_mk (st := s_Place_lifted) l_Place_lifted c_Place_lifted k_Place_lifted), b_Place_lifted := ((fun_mk (st := s_Place_lifted) l_Place_lifted c_Place_lifted k_Place_lifted).binds (ps := P_Place_lifted) fun _ _ _ _ _ _ us hl => match us, hl with | [_, _], _ => rfl), M_Place_lifted := (⟨m_Place_lifted, i_Place_lifted, k_Place_lifted⟩), a_Place_twist := (f_Place_twist), d_Place_twist := (_), F_Place_twist := (fun_mk (st := s_Place_twist) l_Place_twist c_Place_twist k_Place_twist), b_Place_twist := ((fun_mk (st := s_Place_twist) l_Place_twist c_Place_twist k_Place_twist).binds (ps := P_Place_twist) fun _ _ _ _ _ _ us hl => match us, hl with | [_, _], _ => rfl), M_Place_twist := (⟨m_Place_twist, i_Place_twist, k_Place_twist⟩), cn := (cn), ct := (ct), io_Place_int := (io_Place_int), io_Place_bool := (io_Place_bool), is_NoneType_Place := (is_NoneType_Place), sb_NoneType_Place := (sb_NoneType_Place), is_bool_Place := (is_bool_Place), sb_bool_Place := (sb_bool_Place), is_int_Place := (is_int_Place), sb_int_Place := (sb_int_Place), is_str_Place := (is_str_Place), sb_str_Place := (sb_str_Place), is_list_Place := (is_list_Place), sb_list_Place := (sb_list_Place), is_tuple_Place := (is_tuple_Place), sb_tuple_Place := (sb_tuple_Place), is_dict_Place := (is_dict_Place), sb_dict_Place := (sb_dict_Place), n_abs := (PySem.W.mg_none_of X G n_abs), n_bool := (PySem.W.mg_none_of X G n_bool), n_int := (PySem.W.mg_none_of X G n_int), n_isinstance := (PySem.W.mg_none_of X G n_isinstance), n_len := (PySem.W.mg_none_of X G n_len), n_list := (PySem.W.mg_none_of X G n_list), n_max := (PySem.W.mg_none_of X G n_max), n_min := (PySem.W.mg_none_of X G n_min), n_range := (PySem.W.mg_none_of X G n_range), mi_isqrt := (PySem.W.mg_of X G mi_isqrt) } ?_
  have e := hfa.symm.trans (PySem.W.mg_of X G g_law)
  cases e
  rfl
end AW

set_option linter.all false
set_option maxRecDepth 100000
set_option maxHeartbeats 4000000
namespace AW
open PySem PySem.Spec PyProof.Rows L2
/-! ### what values there are -/
section
variable {K : PySem.W.Frag} {mg : Str → Option Value}
/-- the type of a value of the law's -/
def TyT (T : Tx K mg) (t : Value) : Prop := t = .ref T.C_Place ∨ t = .type "NoneType" ∨ t = .type "bool" ∨ t = .type "int" ∨ t = .type "str" ∨ t = .type "list" ∨ t = .type "tuple" ∨ t = .type "dict"
def isI (t : Value) : Bool := t == .type "int" || t == .type "bool"
def isB (t : Value) : Bool := t == .type "bool"
def isP (T : Tx K mg) (t : Value) : Bool := t == .ref T.C_Place
theorem kit_int (T : Tx K mg) {t : Value} (h : TyT T t) : PySem.W.kitOne K t (.type "int") = some (isI t) := by
  rcases h with rfl | rfl | rfl | rfl | rfl | rfl | rfl | rfl
  · exact T.io_Place_int
  all_goals exact kit_ty (by decide +kernel)
theorem kit_bool (T : Tx K mg) {t : Value} (h : TyT T t) : PySem.W.kitOne K t (.type "bool") = some (isB t) := by
  rcases h with rfl | rfl | rfl | rfl | rfl | rfl | rfl | rfl
  · exact T.io_Place_bool
  all_goals exact kit_ty (by decide +kernel)
theorem kit_self {t : Value} : PySem.W.kitOne K t t = some true := by
  unfold PySem.W.kitOne
  rw [if_pos (by simp)]
theorem kit_place (T : Tx K mg) {t : Value} (h : TyT T t) : PySem.W.kitOne K t (.ref T.C_Place) = some (isP T t) := by
  rcases h with rfl | rfl | rfl | rfl | rfl | rfl | rfl | rfl
  · rw [kit_self]; simp [isP]
  · exact T.is_NoneType_Place
  · exact T.is_bool_Place
  · exact T.is_int_Place
  · exact T.is_str_Place
  · exact T.is_list_Place
  · exact T.is_tuple_Place
  · exact T.is_dict_Place
def intV : V → Bool
  | .int _ => true
  | _ => false
theorem intV_of {H : Hp} {v : V} {t : Value} (ty : TyX K H v t) : (isI t && !isB t) = intV v := by
  cases ty with
  | base b => cases b <;> first | rfl | (simp [isI, isB, intV])
  | _ => rfl
/-- a value of the law's, in the heap H -/
def Vl (T : Tx K mg) (H : Hp) (v : V) : Prop := ∃ t, TyX K H v t ∧ TyT T t
theorem TyOf.mono {H H' : Hp} {v : V} {t : Value} (s : Same H H') (h : TyOf K H v t) : TyOf K H' v t := by
  cases h with
  | non => exact .non
  | bl x => exact .bl x
  | int i => exact .int i
  | str x => exact .str x
  | flt x => exact .flt x
  | lst e => exact .lst (s _ _ e)
  | frz e => exact .frz (s _ _ e)
  | tup e => exact .tup (s _ _ e)
  | dK e => exact .dK (s _ _ e)
  | dT e => exact .dT (s _ _ e)
  | ins e cl ha hn htk hm => exact .ins (s _ _ e) cl ha hn htk hm
theorem TyX.mono {H H' : Hp} {v : V} {t : Value} (s : Same H H') (h : TyX K H v t) : TyX K H' v t := by
  cases h with
  | base b => exact .base (TyOf.mono s b)
  | byt b => exact .byt b
  | set e => exact .set (s _ _ e)
  | kList e c => exact .kList e c
  | kTuple e c => exact .kTuple e c
  | kDict e c => exact .kDict e c
  | fTuple e => exact .fTuple (s _ _ e)
  | fDict e => exact .fDict (s _ _ e)
theorem Vl.mono {T : Tx K mg} {H H' : Hp} {v : V} (s : Same H H') (h : Vl T H v) : Vl T H' v := let ⟨t, a, b⟩ := h; ⟨t, TyX.mono s a, b⟩
theorem Vl.int {T : Tx K mg} {H : Hp} (i : Int) : Vl T H (.int i) := ⟨_, .base (.int i), .inr (.inr (.inr (.inl rfl)))⟩
theorem Vl.non {T : Tx K mg} {H : Hp} : Vl T H .non := ⟨_, .base .non, .inr (.inl rfl)⟩
theorem Vl.bl {T : Tx K mg} {H : Hp} (b : Bool) : Vl T H (.bl b) := ⟨_, .base (.bl b), .inr (.inr (.inl rfl))⟩
theorem Vl.str {T : Tx K mg} {H : Hp} (b : Str) : Vl T H (.str b) := ⟨_, .base (.str b), .inr (.inr (.inr (.inr (.inl rfl))))⟩
theorem Vl.lst {T : Tx K mg} {H : Hp} {a : Addr} {xs : List V} (e : H a = some (.lst xs)) : Vl T H (.ref a) := ⟨_, .base (.lst e), .inr (.inr (.inr (.inr (.inr (.inl rfl)))))⟩
theorem Vl.tup {T : Tx K mg} {H : Hp} {a : Addr} {xs : List V} (e : H a = some (.tup xs)) : Vl T H (.ref a) := ⟨_, .base (.tup e), .inr (.inr (.inr (.inr (.inr (.inr (.inl rfl))))))⟩
theorem Vl.dct {T : Tx K mg} {H : Hp} {a : Addr} {xs : List (Key × V)} (e : H a = some (.dK xs)) : Vl T H (.ref a) := ⟨_, .base (.dK e), .inr (.inr (.inr (.inr (.inr (.inr (.inr rfl))))))⟩
/-! ### places -/
theorem kxy : ¬ (("x" : Str) = "y") := by decide +kernel
theorem kxa : ¬ (("x" : Str) = "area") := by decide +kernel
theorem kya : ¬ (("y" : Str) = "area") := by decide +kernel
def flds (x y a : Int) : List (Str × V) := [("x", .int x), ("y", .int y), ("area", .int a)]
theorem flds_x (x y a : Int) : (flds x y a).lookup ("x" : Str) = some (.int x) := by simp [flds, List.lookup]
theorem flds_y (x y a : Int) : (flds x y a).lookup ("y" : Str) = some (.int y) := by
  have h : (("y" : Str) == "x") = false := by decide +kernel
  simp [flds, List.lookup, h]
theorem flds_a (x y a : Int) : (flds x y a).lookup ("area" : Str) = some (.int a) := by
  have h : (("area" : Str) == "x") = false := by decide +kernel
  have h2 : (("area" : Str) == "y") = false := by decide +kernel
  simp [flds, List.lookup, h, h2]
theorem flds_no (x y a : Int) {m : Str} (h1 : (m == ("x" : Str)) = false) (h2 : (m == ("y" : Str)) = false) (h3 : (m == ("area" : Str)) = false) : (flds x y a).lookup m = none := by simp [flds, List.lookup, h1, h2, h3]
/-- a Place (x, y, a) at p -/
def PlAt (T : Tx K mg) (H : Hp) (p : Addr) (x y a : Int) : Prop := ∃ dx, H p = some (.ins T.C_Place dx (flds x y a))
theorem PlAt.mono {T : Tx K mg} {H H' : Hp} {p : Addr} {x y a : Int} (s : Same H H') (h : PlAt T H p x y a) : PlAt T H' p x y a := let ⟨dx, e⟩ := h; ⟨dx, s _ _ e⟩
theorem PlAt.ty {T : Tx K mg} {H : Hp} {p : Addr} {x y a : Int} (h : PlAt T H p x y a) : TyX K H (.ref p) (.ref T.C_Place) := let ⟨_, e⟩ := h; .base (.ins e T.cl_Place T.ca_Place T.cn T.ct T.cm_Place)
theorem PlAt.vl {T : Tx K mg} {H : Hp} {p : Addr} {x y a : Int} (h : PlAt T H p x y a) : Vl T H (.ref p) := ⟨_, h.ty, .inl rfl⟩
theorem Same.laid {H : Hp} {p : Addr} {o : HO} (h : H p = none) : Same H (upd H p o) := fun b u e => by rw [upd_ne (ne_of_none e h)]; exact e
theorem Same.after {H H1 : Hp} {p : Addr} {o : HO} (s : Same H H1) (h : H1 p = none) : Same H (upd H1 p o) := s.trans (Same.laid h)
end
end AW

set_option linter.all false
set_option maxRecDepth 100000
set_option maxHeartbeats 4000000
namespace AW
open PySem PySem.Spec PyProof.Rows L2
section
variable {P : Program} {w : World} {K : PySem.W.Frag} {mg : Str → Option Value} {base : Heap}
/-- what an own error of a base def lets out, by the def's own wish -/
theorem passE {X : Cx} {E : XK} {E₁ : Value → Shared → Prop} (hs : X.stack = X.env :: X.outer := by rfl) (hf : X.env.frame = some X.env.locals := by rfl) (hex : X.ex = [] := by rfl)
    (hx : X.xe = fun e s' => wpAny (model X.prog X.w) X.A (leaving X.env e) (fun _ s'' => L2.CX X.prog X.w X.outer X.H_0 X.s_0 E e s'') E₁ s' := by rfl) : Passes (L2.CX X.prog X.w) X E :=
  passes_call (takes_of hs hf hex hx) (fun _ _ _ _ h => h)
def sp_is_integer (T : Tx K mg) : Sp := fun vs H Q _ => ∃ v, vs = [v] ∧ Vl T H v ∧ Q (.bl (intV v)) H
theorem ok_is_integer (T : Tx K mg) : FnOk P w K mg base (L2.CX P w) 1 T.a_is_integer T.d_is_integer P_is_integer (sp_is_integer T) := by
  refine T.F_is_integer.okX sc_is_integer (fun vs H Q E h => ?_) (fun cdv A outer s H vs Q E hr h => ?_)
  · obtain ⟨v, rfl, _⟩ := h
    rfl
  · obtain ⟨v, rfl, ⟨t, ty, hv⟩, k⟩ := h
    refine ⟨_, pss_one (ps_ret (pe_and (pe_callB call_isi rfl T.n_isinstance (by decide +kernel) (pa_cons (pv 0) (pa_cons (pe_bltn (v := .ty "int") rfl T.n_int (by decide +kernel) rfl) pa_nil)))
      (pe_one (pe_not (pe_callB call_isi rfl T.n_isinstance (by decide +kernel) (pa_cons (pv 0) (pa_cons (pe_bltn (v := .ty "bool") rfl T.n_bool (by decide +kernel) rfl) pa_nil))))))), ?_⟩
    refine ⟨_, rfl, v, .ty "int", t, _, isI t, rfl, .ty _, ty, kit_int T hv, _, rfl, ?_⟩
    cases hi : isI t with
    | false =>
      refine iteF ?_
      have e := intV_of ty
      rw [hi] at e
      have e' : intV v = false := by rw [← e] <;> rfl
      rw [e'] at k
      exact k
    | true =>
      refine iteT ⟨_, rfl, v, .ty "bool", t, _, isB t, rfl, .ty _, ty, kit_bool T hv, _, rfl, ?_⟩
      have e := intV_of ty
      rw [hi, Bool.true_and] at e
      rw [e]
      exact k
/-- an error's own __init__ -/
def sp_einit (C : Addr) (f : Str) : Sp := fun vs H Q _ => ∃ (a : Addr) (v : V), vs = [.ref a, v] ∧ H a = some (exo a C none) ∧ ∀ dx, H dx = none → dx ≠ a → Q .non (upd (upd H dx (exd dx [(f, v)])) a (exo a C (some dx)))
theorem ok_BadNumber_init (T : Tx K mg) : FnOk P w K mg base (L2.CX P w) 1 T.a_BadNumber_init T.d_BadNumber_init P_BadNumber_init (sp_einit T.C_BadNumber "value") := by
  refine T.F_BadNumber_init.okX sc_BadNumber_init (fun vs H Q E h => ?_) (fun cdv A outer s H vs Q E hr h => ?_)
  · obtain ⟨a, v, rfl, _⟩ := h
    rfl
  · obtain ⟨a, v, rfl, ha, k⟩ := h
    refine ⟨_, pss_one (ps_ost (pv 0) (pv 1)), ?_⟩
    exact ⟨_, rfl, _, rfl, a, T.C_BadNumber, rfl, T.X_BadNumber, T.na_BadNumber_value, .inl ⟨ha, fun dx hd ne => k dx hd ne⟩⟩
theorem ok_BadPlace_init (T : Tx K mg) : FnOk P w K mg base (L2.CX P w) 1 T.a_BadPlace_init T.d_BadPlace_init P_BadPlace_init (sp_einit T.C_BadPlace "value") := by
  refine T.F_BadPlace_init.okX sc_BadPlace_init (fun vs H Q E h => ?_) (fun cdv A outer s H vs Q E hr h => ?_)
  · obtain ⟨a, v, rfl, _⟩ := h
    rfl
  · obtain ⟨a, v, rfl, ha, k⟩ := h
    refine ⟨_, pss_one (ps_ost (pv 0) (pv 1)), ?_⟩
    exact ⟨_, rfl, _, rfl, a, T.C_BadPlace, rfl, T.X_BadPlace, T.na_BadPlace_value, .inl ⟨ha, fun dx hd ne => k dx hd ne⟩⟩
/-- the wish for an error with one field: behind it the heap has its dict -/
def Err (H : Hp) (E : XK) (C : Addr) (f : Str) (v : V) : Prop := ∀ (d : Addr) (H' : Hp), Same H H' → H d = none → H' d = some (.xd [(f, v)]) → E (.ref C) (some d) H'
theorem Err.mono {H H1 : Hp} {E : XK} {C : Addr} {f : Str} {v : V} (s : Same H H1) (e : Err H E C f v) : Err H1 E C f v := fun d H' s' n h => e d H' (s.trans s') (s.free n) h
/-- what raise C(v) asks, by the init's promise -/
theorem mk_einit {C : Addr} {f : Str} {σ : L2.St} {H : Hp} {Q : XK} {ta : TA} {v : V} (h : ta σ H fun vs H1 => vs = [v] ∧ H1 = H) (k : Err H Q C f v) (hta : ∀ (Q Q' : List V → Hp → Prop), (∀ vs H, Q vs H → Q' vs H) → ta σ H Q → ta σ H Q') : tMkO C (sp_einit C f) [] ta σ H Q := by
  refine hta _ _ ?_ h
  rintro vs H1 ⟨rfl, rfl⟩
  refine ⟨by show 1 ≤ 1000; decide, fun a ha => ⟨a, v, rfl, upd_same, fun dx hd ne => ⟨rfl, dx, [(f, v)], upd_same, ?_, ?_, ?_⟩⟩⟩
  · rw [upd_ne ne, upd_same]
  · rw [upd_ne ne] at hd; exact hd
  · have hdx : H1 dx = none := by rw [upd_ne ne] at hd; exact hd
    refine k dx _ (fun b o e => ?_) hdx upd_same
    have nb : b ≠ dx := ne_of_none e hdx
    have na : b ≠ a := ne_of_none e ha
    rw [upd_ne nb, del_ne na, upd_ne na, upd_ne nb, upd_ne na]
    exact e
def sp_check_integer (T : Tx K mg) : Sp := fun vs H Q E => ∃ v, vs = [v] ∧ Vl T H v ∧ (intV v = true → Q .non H) ∧ (intV v = false → Err H E T.C_BadNumber "value" v)
theorem ok_check_integer (T : Tx K mg) : FnOk P w K mg base (L2.CX P w) 3 T.a_check_integer T.d_check_integer P_check_integer (sp_check_integer T) := by
  have G1 : FnOk P w K mg base (L2.CX P w) 1 _ _ _ _ := ok_is_integer T
  have G2 : FnOk P w K mg base (L2.CX P w) 1 _ _ _ _ := ok_BadNumber_init T
  refine T.F_check_integer.okX sc_check_integer (fun vs H Q E h => ?_) (fun cdv A outer s H vs Q E hr h => ?_)
  · obtain ⟨v, rfl, _⟩ := h
    rfl
  · obtain ⟨v, rfl, hv, kt, kf⟩ := h
    refine ⟨_, pss_one (ps_if (pt_not (pt_val (pe_call G1 (hr.mono (by decide)) rfl T.g_is_integer T.F_is_integer.kp T.b_is_integer .nil passL (pa_cons (pv 0) pa_nil))))
      (pss_one (ps_raise rfl (takes_of rfl rfl rfl rfl) (pmk_oex T.X_BadNumber T.ei_BadNumber T.et_BadNumber G2 hr T.b_BadNumber_init .nil passL rfl T.g_C_BadNumber (by exact pa_cons (pv 0) pa_nil)))) pss_nil), ?_⟩
    refine ⟨_, rfl, v, rfl, hv, _, rfl, ?_⟩
    cases hi : intV v with
    | true => exact iteF (kt hi)
    | false =>
      refine iteT ?_
      exact mk_einit (v := v) ⟨_, rfl, rfl, rfl⟩ (kf hi) (fun Q Q' h1 ⟨x, e, h2⟩ => ⟨x, e, h1 _ _ h2⟩)
end
end AW

set_option linter.all false
set_option maxRecDepth 100000
set_option maxHeartbeats 4000000
namespace AW
open PySem PySem.Spec PyProof.Rows L2
theorem find_first {α : Type} {p : α → Bool} : ∀ {xs : List α} {i : Nat} {v : α}, xs[i]? = some v → p v = true → (∀ (j : Nat) u, j < i → xs[j]? = some u → p u = false) → xs.find? p = some v
  | [], _, _, h, _, _ => by simp at h
  | a :: r, 0, v, h, hp, _ => by
    simp at h; subst h
    simp [List.find?, hp]
  | a :: r, i + 1, v, h, hp, hq => by
    have ha : p a = false := hq 0 a (Nat.succ_pos _) (by simp)
    simp only [List.find?, ha]
    exact find_first (by simpa using h) hp fun j u hj hu => hq (j + 1) u (Nat.succ_lt_succ hj) (by simpa using hu)
section
variable {P : Program} {w : World} {K : PySem.W.Frag} {mg : Str → Option Value} {base : Heap}
def sp_Place_init (T : Tx K mg) : Sp := fun vs H Q E => ∃ (p dx : Addr) (vx vy va : V), vs = [.ref p, vx, vy, va] ∧ H p = some (.ins T.C_Place dx []) ∧ Vl T H vx ∧ Vl T H vy ∧ Vl T H va ∧
  ((∃ x y a, vx = .int x ∧ vy = .int y ∧ va = .int a ∧ ∀ H' : Hp, (∀ b o, b ≠ p → H b = some o → H' b = some o) → H' p = some (.ins T.C_Place dx (flds x y a)) → Q .non H') ∨
   (∃ v, [vx, vy, va].find? (fun v => !intV v) = some v ∧ Err H E T.C_BadNumber "value" v))
theorem putF3 (x y a : Int) : putF "area" (.int a) (putF "y" (.int y) (putF "x" (.int x) [])) = flds x y a := by
  simp [putF, flds, kxy, kxa, kya]
theorem ok_Place_init (T : Tx K mg) : FnOk P w K mg base (L2.CX P w) 4 T.a_Place_init T.d_Place_init P_Place_init (sp_Place_init T) := by
  have G1 : FnOk P w K mg base (L2.CX P w) 3 _ _ _ _ := ok_check_integer T
  refine T.F_Place_init.okX sc_Place_init (fun vs H Q E h => ?_) (fun cdv A outer s H vs Q E hr h => ?_)
  · obtain ⟨p, dx, vx, vy, va, rfl, _⟩ := h
    rfl
  · obtain ⟨p, dx, vx, vy, va, rfl, hp, hx, hy, ha, k⟩ := h
    refine ⟨_, pss_cons (ps_for (passes_of rfl) rfl (pi_tup (pe_tup (pa_cons (pv 1) (pa_cons (pv 2) (pa_cons (pv 3) pa_nil))))) (pg_name (i := 4) sc_Place_init.nd rfl (.inl rfl))
        (pss_one (ps_expr (pe_call G1 hr rfl T.g_check_integer T.F_check_integer.kp T.b_check_integer .nil (passE (E := E)) (pa_cons (pv 4) pa_nil)))))
      (pss_cons (ps_fld (pv 0) (pv 1) rfl) (pss_cons (ps_fld (pv 0) (pv 2) rfl) (pss_one (ps_fld (pv 0) (pv 3) rfl)))), ?_⟩
    refine ⟨_, rfl, _, rfl, _, rfl, (by show 3 ≤ sizeLine; decide), fun t ht => ⟨t, rfl, ⟨_, SqT.of upd_same⟩, ?_⟩⟩
    have s0 : Same H (upd H t (.tup [vx, vy, va])) := Same.laid ht
    refine for_tup (K := K) (a := t) (xs := [vx, vy, va]) (fun i σ H1 => (∃ v, σ = [some (.ref p), some vx, some vy, some va, v]) ∧ H1 = upd H t (.tup [vx, vy, va]) ∧ ∀ (j : Nat) u, j < i → [vx, vy, va][j]? = some u → (!intV u) = false)
      ⟨⟨none, rfl⟩, rfl, fun j u hj => absurd hj (Nat.not_lt_zero _)⟩ (fun i σ H1 _ ⟨_, e, _⟩ => by rw [e]; exact SqT.of upd_same) ?_ ?_
    · rintro i v σ H1 hi ⟨⟨v0, rfl⟩, rfl, hj⟩
      have hv : Vl T H v := by
        match i, hi with
        | 0, hi => simp at hi; subst hi; exact hx
        | 1, hi => simp at hi; subst hi; exact hy
        | 2, hi => simp at hi; subst hi; exact ha
      refine ⟨_, rfl, v, rfl, hv.mono s0, fun hi' => ⟨⟨_, rfl⟩, rfl, fun j u hlt hu => ?_⟩, fun hi' => ?_⟩
      · rcases Nat.lt_succ_iff_lt_or_eq.mp hlt with h | h
        · exact hj j u h hu
        · subst h; rw [hi] at hu; cases hu; rw [hi']; rfl
      · have hf := find_first (p := fun v => !intV v) hi (by rw [hi']; rfl) hj
        rcases k with ⟨x, y, a, rfl, rfl, rfl, _⟩ | ⟨v', h1, h2⟩
        · simp [List.find?, intV] at hf
        · rw [hf] at h1; cases h1
          exact h2.mono s0
    · rintro σ H1 ⟨⟨v0, rfl⟩, rfl, hj⟩
      rcases k with ⟨x, y, a, rfl, rfl, rfl, k⟩ | ⟨v', h1, h2⟩
      · have np : p ≠ t := ne_of_none hp ht
        refine ⟨_, rfl, _, rfl, p, T.C_Place, dx, [], rfl, (by rw [upd_ne np]; exact hp), T.cl_Place, T.na_Place_x, (by decide), ?_⟩
        refine ⟨_, rfl, _, rfl, p, T.C_Place, dx, _, rfl, upd_same, T.cl_Place, T.na_Place_y, (by show 1 < 1000; decide), ?_⟩
        refine ⟨_, rfl, _, rfl, p, T.C_Place, dx, _, rfl, upd_same, T.cl_Place, T.na_Place_area, (by have h1 := length_putF "y" (V.int y) (putF "x" (V.int x) []); have h2 := length_putF "x" (V.int x) []; have h3 : ([] : List (Str × V)).length = 0 := rfl; omega), ?_⟩
        refine k _ (fun b o nb e => ?_) ?_
        · rw [upd_ne nb, upd_ne nb, upd_ne nb, upd_ne (ne_of_none e ht)]
          exact e
        · rw [upd_same, putF3]
      · have hm := List.find?_some h1
        have hmem := List.mem_of_find?_eq_some h1
        obtain ⟨j, hj1, hj2⟩ := List.getElem_of_mem hmem
        have := hj j v' hj1 (by rw [List.getElem?_eq_getElem hj1, hj2])
        rw [this] at hm
        cases hm
/-- what a call Place(x, y, a) of ints asks: a new Place p -/
theorem mk_place (T : Tx K mg) {H : Hp} {Q : VK} {E : XK} {x y a : Int} (k : ∀ p H', Same H H' → H p = none → PlAt T H' p x y a → Q (.ref p) H') :
    ∀ p dx, H p = none → H dx = none → dx ≠ p → sp_Place_init T (.ref p :: ([.int x, .int y, .int a] ++ [])) (upd (upd H dx (.own p)) p (.ins T.C_Place dx [])) (fun v H2 => v = .non ∧ Q (.ref p) H2) E := fun p dx hp hd ne =>
  ⟨p, dx, _, _, _, rfl, upd_same, .int x, .int y, .int a, .inl ⟨x, y, a, rfl, rfl, rfl, fun H' s e => ⟨rfl, k p H' (fun b o h => s b o (ne_of_none h hp) (by rw [upd_ne (ne_of_none h hp), upd_ne (ne_of_none h hd)]; exact h)) hp ⟨dx, e⟩⟩⟩⟩
end
end AW

set_option linter.all false
set_option maxRecDepth 100000
set_option maxHeartbeats 4000000
namespace AW
open PySem PySem.Spec PyProof.Rows L2
theorem ifT {c : Bool} {A B : Prop} (hc : c = true) (h : A) : if c = true then A else B := by
  rw [if_pos hc]
  exact h
theorem ifN {c : Bool} {A B : Prop} (hc : c = false) (h : B) : if c = true then A else B := by
  rw [hc, if_neg Bool.false_ne_true]
  exact h
/-! ### sizes of ints -/
def Bd (k : Nat) (i : Int) : Prop := i.natAbs < 2 ^ k
theorem Bd.mono {k m : Nat} {i : Int} (h : Bd k i) (l : k ≤ m) : Bd m i := Nat.lt_of_lt_of_le h (Nat.pow_le_pow_right (by decide) l)
theorem Bd.neg {k : Nat} {i : Int} (h : Bd k i) : Bd k (-i) := by unfold Bd; rw [Int.natAbs_neg]; exact h
theorem Bd.add {k : Nat} {i j : Int} (h : Bd k i) (g : Bd k j) : Bd (k + 1) (i + j) := by
  unfold Bd at *
  rw [Nat.pow_succ]
  omega
theorem Bd.sub {k : Nat} {i j : Int} (h : Bd k i) (g : Bd k j) : Bd (k + 1) (i - j) := by
  unfold Bd at *
  rw [Nat.pow_succ]
  omega
theorem Bd.mul {k m : Nat} {i j : Int} (h : Bd k i) (g : Bd m j) : Bd (k + m) (i * j) := wide_lt h g
abbrev BIG : Nat := 400000
theorem big_mul {i j : Int} (h : Bd BIG i) (g : Bd BIG j) : CMulW i j := wide_mul h g (by decide) (by decide) (by decide)
section
variable {P : Program} {w : World} {K : PySem.W.Frag} {mg : Str → Option Value} {base : Heap}
theorem notFirst_of (T : Tx K mg) {t : Value} (h : TyT T t) : PySem.W.notFirst K T.C_Place t = true := by
  unfold PySem.W.notFirst
  rcases h with rfl | rfl | rfl | rfl | rfl | rfl | rfl | rfl
  · simp
  · rw [T.sb_NoneType_Place]; simp
  · rw [T.sb_bool_Place]; simp
  · rw [T.sb_int_Place]; simp
  · rw [T.sb_str_Place]; simp
  · rw [T.sb_list_Place]; simp
  · rw [T.sb_tuple_Place]; simp
  · rw [T.sb_dict_Place]; simp
theorem rt_of (T : Tx K mg) {t : Value} (h : TyT T t) : RtOk K T.C_Place .Mult t := by
  rcases h with rfl | rfl | rfl | rfl | rfl | rfl | rfl | rfl
  · exact .same
  · exact .ty rfl rfl T.sb_NoneType_Place
  · exact .ty rfl rfl T.sb_bool_Place
  · exact .ty rfl rfl T.sb_int_Place
  · exact .ty rfl rfl T.sb_str_Place
  · exact .ty rfl rfl T.sb_list_Place
  · exact .ty rfl rfl T.sb_tuple_Place
  · exact .ty rfl rfl T.sb_dict_Place
/-- v is no Place -/
def NoP (T : Tx K mg) (H : Hp) (v : V) : Prop := ∃ t, TyX K H v t ∧ TyT T t ∧ isP T t = false
theorem NoP.vl {T : Tx K mg} {H : Hp} {v : V} (h : NoP T H v) : Vl T H v := let ⟨t, a, b, _⟩ := h; ⟨t, a, b⟩
theorem NoP.mono {T : Tx K mg} {H H' : Hp} {v : V} (s : Same H H') (h : NoP T H v) : NoP T H' v := let ⟨t, a, b, c⟩ := h; ⟨t, TyX.mono s a, b, c⟩
/-- isinstance(v, Place): no -/
theorem kit_no (T : Tx K mg) {t : Value} (ht : TyT T t) (e : isP T t = false) : PySem.W.kitOne K t (.ref T.C_Place) = some false := by rw [kit_place T ht, e]
def sp_Place_eq (T : Tx K mg) : Sp := fun vs H Q _ => ∃ (p : Addr) (v : V) (x y a : Int), vs = [.ref p, v] ∧ PlAt T H p x y a ∧
  ((∃ q x' y' a', v = .ref q ∧ PlAt T H q x' y' a' ∧ Q (.bl (decide (x = x' ∧ y = y' ∧ a = a'))) H) ∨ (NoP T H v ∧ Q (.bl false) H))
theorem ok_Place_eq (T : Tx K mg) : FnOk P w K mg base (L2.CX P w) 1 T.a_Place_eq T.d_Place_eq P_Place_eq (sp_Place_eq T) := by
  refine T.F_Place_eq.okX sc_Place_eq (fun vs H Q E h => ?_) (fun cdv A outer s H vs Q E hr h => ?_)
  · obtain ⟨p, v, x, y, a, rfl, _⟩ := h
    rfl
  · obtain ⟨p, v, x, y, a, rfl, hp, k⟩ := h
    refine ⟨_, pss_one (ps_ret (pe_and (pe_callB call_isi rfl T.n_isinstance (by decide +kernel) (pa_cons (pv 1) (pa_cons (pe_glob (v := .ref T.C_Place) rfl T.g_C_Place rfl) pa_nil)))
      (pe_and (pe_cmp (pc_eqI (pe_fld (pv 0) rfl) (pe_fld (pv 1) rfl)) rfl) (pe_and (pe_cmp (pc_eqI (pe_fld (pv 0) rfl) (pe_fld (pv 1) rfl)) rfl) (pe_one (pe_cmp (pc_eqI (pe_fld (pv 0) rfl) (pe_fld (pv 1) rfl)) rfl)))))), ?_⟩
    obtain ⟨dx, ep⟩ := id hp
    rcases k with ⟨q, x', y', a', rfl, hq, k⟩ | ⟨⟨t, ty, ht, e⟩, k⟩
    · obtain ⟨dy, eq⟩ := id hq
      refine ⟨_, rfl, _, _, _, _, true, rfl, .own _, hq.ty, kit_self, _, rfl, iteT ?_⟩
      refine ⟨_, rfl, p, _, dx, _, _, rfl, ep, T.cl_Place, T.na_Place_x, flds_x x y a, _, rfl, q, _, dy, _, _, rfl, eq, T.cl_Place, T.na_Place_x, flds_x x' y' a', _, _, rfl, rfl, _, rfl, ?_⟩
      by_cases h1 : x = x'
      · refine ifT (decide_eq_true h1) ⟨_, rfl, p, _, dx, _, _, rfl, ep, T.cl_Place, T.na_Place_y, flds_y x y a, _, rfl, q, _, dy, _, _, rfl, eq, T.cl_Place, T.na_Place_y, flds_y x' y' a', _, _, rfl, rfl, _, rfl, ?_⟩
        by_cases h2 : y = y'
        · refine ifT (decide_eq_true h2) ⟨_, rfl, p, _, dx, _, _, rfl, ep, T.cl_Place, T.na_Place_area, flds_a x y a, _, rfl, q, _, dy, _, _, rfl, eq, T.cl_Place, T.na_Place_area, flds_a x' y' a', _, _, rfl, rfl, ?_⟩
          have e : decide (a = a') = decide (x = x' ∧ y = y' ∧ a = a') := by simp [h1, h2]
          rw [← e] at k
          exact k
        · refine ifN (decide_eq_false h2) ?_
          have e : decide (x = x' ∧ y = y' ∧ a = a') = false := by simp [h2]
          rw [e] at k
          exact k
      · refine ifN (decide_eq_false h1) ?_
        have e : decide (x = x' ∧ y = y' ∧ a = a') = false := by simp [h1]
        rw [e] at k
        exact k
    · exact ⟨_, rfl, _, _, _, _, false, rfl, .own _, ty, kit_no T ht e, _, rfl, iteF k⟩
def sp_check_place (T : Tx K mg) : Sp := fun vs H Q E => ∃ v, vs = [v] ∧ ((∃ q x y a, v = .ref q ∧ PlAt T H q x y a ∧ Q .non H) ∨ (NoP T H v ∧ Err H E T.C_BadPlace "value" v))
theorem ok_check_place (T : Tx K mg) : FnOk P w K mg base (L2.CX P w) 3 T.a_check_place T.d_check_place P_check_place (sp_check_place T) := by
  have G2 : FnOk P w K mg base (L2.CX P w) 1 _ _ _ _ := ok_BadPlace_init T
  refine T.F_check_place.okX sc_check_place (fun vs H Q E h => ?_) (fun cdv A outer s H vs Q E hr h => ?_)
  · obtain ⟨v, rfl, _⟩ := h
    rfl
  · obtain ⟨v, rfl, k⟩ := h
    refine ⟨_, pss_one (ps_if (pt_not (pt_val (pe_callB call_isi rfl T.n_isinstance (by decide +kernel) (pa_cons (pv 0) (pa_cons (pe_glob (v := .ref T.C_Place) rfl T.g_C_Place rfl) pa_nil)))))
      (pss_one (ps_raise rfl (takes_of rfl rfl rfl rfl) (pmk_oex T.X_BadPlace T.ei_BadPlace T.et_BadPlace G2 (hr.mono (by decide)) T.b_BadPlace_init .nil passL rfl T.g_C_BadPlace (by exact pa_cons (pv 0) pa_nil)))) pss_nil), ?_⟩
    rcases k with ⟨q, x', y', a', rfl, hq, k⟩ | ⟨⟨t, ty, ht, e⟩, k⟩
    · exact ⟨_, rfl, _, _, _, _, true, rfl, .own _, hq.ty, kit_self, _, rfl, iteF k⟩
    · refine ⟨_, rfl, _, _, _, _, false, rfl, .own _, ty, kit_no T ht e, _, rfl, iteT ?_⟩
      exact mk_einit (v := v) ⟨_, rfl, rfl, rfl⟩ k (fun Q Q' h1 ⟨x, e, h2⟩ => ⟨x, e, h1 _ _ h2⟩)
end
end AW

set_option linter.all false
set_option maxRecDepth 100000
set_option maxHeartbeats 4000000
namespace AW
open PySem PySem.Spec PyProof.Rows L2
section
variable {P : Program} {w : World} {K : PySem.W.Frag} {mg : Str → Option Value} {base : Heap}
/-- a new Place comes back -/
def NewP (T : Tx K mg) (H : Hp) (Q : VK) (x y a : Int) : Prop := ∀ (r : Addr) (H' : Hp), Same H H' → H r = none → PlAt T H' r x y a → Q (.ref r) H'
def sp_Place_mul (T : Tx K mg) : Sp := fun vs H Q E => ∃ (p : Addr) (v : V) (x y a : Int), vs = [.ref p, v] ∧ PlAt T H p x y a ∧
  ((∃ q x' y' a', v = .ref q ∧ PlAt T H q x' y' a' ∧ Bd BIG x ∧ Bd BIG y' ∧ NewP T H Q (x + x') (y + y') (a + a' + x * y')) ∨ (NoP T H v ∧ Err H E T.C_BadPlace "value" v))
theorem ok_Place_mul (T : Tx K mg) : FnOk P w K mg base (L2.CX P w) 6 T.a_Place_mul T.d_Place_mul P_Place_mul (sp_Place_mul T) := by
  have G1 : FnOk P w K mg base (L2.CX P w) 3 _ _ _ _ := ok_check_place T
  have G2 : FnOk P w K mg base (L2.CX P w) 4 _ _ _ _ := ok_Place_init T
  refine T.F_Place_mul.okX sc_Place_mul (fun vs H Q E h => ?_) (fun cdv A outer s H vs Q E hr h => ?_)
  · obtain ⟨p, v, x, y, a, rfl, _⟩ := h
    rfl
  · obtain ⟨p, v, x, y, a, rfl, hp, k⟩ := h
    refine ⟨_, pss_cons (ps_expr (pe_call G1 (hr.mono (by decide)) rfl T.g_check_place T.F_check_place.kp T.b_check_place .nil (passE (E := E)) (pa_cons (pv 1) pa_nil)))
      (pss_one (ps_ret (pe_make T.M_Place G2 hr rfl T.g_C_Place T.b_Place_init .nil passL
        (pa_cons (pe_op op_add (pe_fld (pv 0) rfl) (pe_fld (pv 1) rfl)) (pa_cons (pe_op op_add (pe_fld (pv 0) rfl) (pe_fld (pv 1) rfl))
          (pa_cons (pe_op op_add (pe_op op_add (pe_fld (pv 0) rfl) (pe_fld (pv 1) rfl)) (pe_op op_mulW (pe_fld (pv 0) rfl) (pe_fld (pv 1) rfl))) pa_nil)))))), ?_⟩
    obtain ⟨dx, ep⟩ := id hp
    rcases k with ⟨q, x', y', a', rfl, hq, b1, b2, k⟩ | ⟨hn, k⟩
    · obtain ⟨dy, eq⟩ := id hq
      refine ⟨_, rfl, _, rfl, .inl ⟨q, x', y', a', rfl, hq, ?_⟩⟩
      refine ⟨_, rfl, p, _, dx, _, _, rfl, ep, T.cl_Place, T.na_Place_x, flds_x x y a, _, rfl, q, _, dy, _, _, rfl, eq, T.cl_Place, T.na_Place_x, flds_x x' y' a', _, _, rfl, rfl, ?_⟩
      refine ⟨_, rfl, p, _, dx, _, _, rfl, ep, T.cl_Place, T.na_Place_y, flds_y x y a, _, rfl, q, _, dy, _, _, rfl, eq, T.cl_Place, T.na_Place_y, flds_y x' y' a', _, _, rfl, rfl, ?_⟩
      refine ⟨_, rfl, p, _, dx, _, _, rfl, ep, T.cl_Place, T.na_Place_area, flds_a x y a, _, rfl, q, _, dy, _, _, rfl, eq, T.cl_Place, T.na_Place_area, flds_a x' y' a', _, _, rfl, rfl, ?_⟩
      refine ⟨_, rfl, p, _, dx, _, _, rfl, ep, T.cl_Place, T.na_Place_x, flds_x x y a, _, rfl, q, _, dy, _, _, rfl, eq, T.cl_Place, T.na_Place_y, flds_y x' y' a', _, _, rfl, rfl, big_mul b1 b2, _, _, rfl, rfl, ?_⟩
      exact mk_place T fun r H' s n h => k r H' s n h
    · exact ⟨_, rfl, _, rfl, .inr ⟨hn, k⟩⟩
def sp_Place_invert (T : Tx K mg) : Sp := fun vs H Q E => ∃ (p : Addr) (x y a : Int), vs = [.ref p] ∧ PlAt T H p x y a ∧ Bd BIG x ∧ Bd BIG y ∧ NewP T H Q (-x) (-y) (x * y - a)
theorem ok_Place_invert (T : Tx K mg) : FnOk P w K mg base (L2.CX P w) 6 T.a_Place_invert T.d_Place_invert P_Place_invert (sp_Place_invert T) := by
  have G2 : FnOk P w K mg base (L2.CX P w) 4 _ _ _ _ := ok_Place_init T
  refine T.F_Place_invert.okX sc_Place_invert (fun vs H Q E h => ?_) (fun cdv A outer s H vs Q E hr h => ?_)
  · obtain ⟨p, x, y, a, rfl, _⟩ := h
    rfl
  · obtain ⟨p, x, y, a, rfl, hp, b1, b2, k⟩ := h
    refine ⟨_, pss_one (ps_ret (pe_make T.M_Place G2 hr rfl T.g_C_Place T.b_Place_init .nil passL
        (pa_cons (pe_un un_neg (pe_fld (pv 0) rfl)) (pa_cons (pe_un un_neg (pe_fld (pv 0) rfl))
          (pa_cons (pe_op op_sub (pe_op op_mulW (pe_fld (pv 0) rfl) (pe_fld (pv 0) rfl)) (pe_fld (pv 0) rfl)) pa_nil))))), ?_⟩
    obtain ⟨dx, ep⟩ := id hp
    refine ⟨_, rfl, p, _, dx, _, _, rfl, ep, T.cl_Place, T.na_Place_x, flds_x x y a, _, rfl, ?_⟩
    refine ⟨_, rfl, p, _, dx, _, _, rfl, ep, T.cl_Place, T.na_Place_y, flds_y x y a, _, rfl, ?_⟩
    refine ⟨_, rfl, p, _, dx, _, _, rfl, ep, T.cl_Place, T.na_Place_x, flds_x x y a, _, rfl, p, _, dx, _, _, rfl, ep, T.cl_Place, T.na_Place_y, flds_y x y a, _, _, rfl, rfl, big_mul b1 b2, ?_⟩
    refine ⟨_, rfl, p, _, dx, _, _, rfl, ep, T.cl_Place, T.na_Place_area, flds_a x y a, _, _, rfl, rfl, ?_⟩
    exact mk_place T fun r H' s n h => k r H' s n h
end
end AW

set_option maxHeartbeats 2000000
/-! The fewest steps to a place, by boxes: an independent text, no program in it.
A place is (x, y, u) with u = 2 area - x y. e: (x+1, y, u-y), w: (x-1, y, u+y), n: (x, y+1, u+x), s: (x, y-1, u-x). -/
namespace Fewest
abbrev ab (x : Int) : Int := (x.natAbs : Int)
/-- a box of the sides p and q holds the place -/
def Box (X Y U p q : Int) : Prop := X ≤ p ∧ Y ≤ q ∧ U + X * Y ≤ 2 * (p * q)
/-- n is the least 2 (p + q) - X - Y of the boxes -/
structure Least (X Y U n : Int) : Prop where
  has : ∃ p q, Box X Y U p q ∧ n = 2 * (p + q) - X - Y
  low : ∀ p q, Box X Y U p q → n ≤ 2 * (p + q) - X - Y
theorem Box.swap {X Y U p q : Int} (h : Box X Y U p q) : Box Y X U q p := by
  obtain ⟨h1, h2, h3⟩ := h
  refine ⟨h2, h1, ?_⟩
  rw [Int.mul_comm Y X, Int.mul_comm q p]
  exact h3
theorem Least.swap {X Y U n : Int} (h : Least X Y U n) : Least Y X U n := by
  obtain ⟨p, q, b, e⟩ := h.has
  exact ⟨⟨q, p, b.swap, by omega⟩, fun p q b => by have := h.low q p b.swap; omega⟩
theorem Least.uniq {X Y U n m : Int} (h : Least X Y U n) (g : Least X Y U m) : n = m := by
  obtain ⟨p, q, b, e⟩ := h.has
  obtain ⟨p', q', b', e'⟩ := g.has
  have h1 := g.low p q b
  have h2 := h.low p' q' b'
  omega
theorem mul_mono {a b c : Int} (h : a ≤ b) (hc : 0 ≤ c) : a * c ≤ b * c := Int.mul_le_mul_of_nonneg_right h hc
/-- one step along x: to a side X' that is X + 1 or X - 1, the ground moved by at most Y -/
theorem lip_up {X Y U U' p q : Int} (hY : 0 ≤ Y) (b : Box X Y U p q) (hu : U' ≤ U + Y) : Box (X + 1) Y U' (p + 1) q := by
  obtain ⟨h1, h2, h3⟩ := b
  refine ⟨by omega, h2, ?_⟩
  rw [Int.add_mul, Int.add_mul]
  omega
theorem lip_down {X Y U U' p q : Int} (b : Box X Y U p q) (hu : U' ≤ U + Y) : Box (X - 1) Y U' p q := by
  obtain ⟨h1, h2, h3⟩ := b
  refine ⟨by omega, h2, ?_⟩
  rw [Int.sub_mul]
  omega
/-- no step makes more than one step more -/
theorem lip_x {x y u u' x' n m : Int} (hx : x' = x + 1 ∨ x' = x - 1) (hu : ab u' ≤ ab u + ab y) (h : Least (ab x) (ab y) (ab u) n) (g : Least (ab x') (ab y) (ab u') m) : m ≤ n + 1 := by
  obtain ⟨p, q, b, e⟩ := h.has
  have hY : 0 ≤ ab y := by unfold ab; omega
  rcases (show ab x' = ab x + 1 ∨ ab x' = ab x - 1 by unfold ab; omega) with e1 | e1
  · rw [e1] at g
    have := g.low _ _ (lip_up hY b hu)
    omega
  · rw [e1] at g
    have := g.low _ _ (lip_down b hu)
    omega
/-! ### the formula -/
def half (A : Int) (h : Int) : Prop := 0 ≤ h ∧ 4 * A ≤ h * h ∧ (h - 1) * (h - 1) < 4 * A
theorem sq_le {a b : Int} (ha : 0 ≤ a) (h : a ≤ b) : a * a ≤ b * b := Int.le_trans (Int.mul_le_mul_of_nonneg_right h ha) (Int.mul_le_mul_of_nonneg_left h (by omega))
theorem sq_lt {a b : Int} (hb : 0 ≤ b) (h : a * a < b * b) : a < b := by
  by_cases c : b ≤ a
  · have := sq_le hb c; omega
  · omega
theorem four (p q : Int) : 4 * (p * q) ≤ (p + q) * (p + q) := by
  have h : 0 ≤ (p - q) * (p - q) := by
    rcases Int.le_total 0 (p - q) with h | h
    · exact Int.mul_nonneg h h
    · have := Int.mul_nonneg (show 0 ≤ -(p - q) by omega) (show 0 ≤ -(p - q) by omega)
      rw [Int.neg_mul_neg] at this
      exact this
  have e : (p + q) * (p + q) = (p - q) * (p - q) + 4 * (p * q) := by grind
  omega
/-- within the sides -/
theorem least1 {L S U A : Int} (hA : 2 * A = U + L * S) (hc : A ≤ L * S) : Least L S U (L + S) :=
  ⟨⟨L, S, ⟨Int.le_refl _, Int.le_refl _, by omega⟩, by omega⟩, fun p q b => by have := b.1; have := b.2.1; omega⟩
/-- the longer side stays, c the least with A ≤ L c -/
theorem least2 {L S U A c : Int} (hS : 0 ≤ S) (hL : 0 < L) (hA : 2 * A = U + L * S) (h1 : L * S < A) (h2 : A ≤ L * L) (hc : A ≤ L * c) (hc2 : L * (c - 1) < A) : Least L S U (2 * c + L - S) := by
  have cS : S ≤ c := by
    rcases (show c < S ∨ S ≤ c by omega) with h | h
    · have := Int.mul_le_mul_of_nonneg_left (show c ≤ S by omega) (Int.le_of_lt hL)
      omega
    · exact h
  refine ⟨⟨L, c, ⟨Int.le_refl _, cS, by omega⟩, by omega⟩, fun p q b => ?_⟩
  obtain ⟨b1, b2, b3⟩ := b
  rcases (show p + q < L + c ∨ L + c ≤ p + q by omega) with h | h
  · have cL : c - 1 < L := by
      rcases (show c - 1 < L ∨ L ≤ c - 1 by omega) with h | h
      · exact h
      · have := Int.mul_le_mul_of_nonneg_left h (Int.le_of_lt hL)
        omega
    -- p = L + d, q ≤ c - 1 - d
    have hp : 0 ≤ p := by omega
    have e1 : p * q ≤ p * (L + c - 1 - p) := Int.mul_le_mul_of_nonneg_left (by omega) hp
    have e2 : 0 ≤ (p - L) * (p - (c - 1)) := Int.mul_nonneg (by omega) (by omega)
    have e3 : p * (L + c - 1 - p) = L * (c - 1) - (p - L) * (p - (c - 1)) := by grind
    omega
  · omega
/-- a square, or nearly so -/
theorem least3 {L S U A h : Int} (hS : 0 ≤ S) (hSL : S ≤ L) (hA : 2 * A = U + L * S) (h2 : L * L < A) (hh : half A h) : Least L S U (2 * h - L - S) := by
  obtain ⟨k0, k1, k2⟩ := hh
  have hL : 2 * L < h := by
    have : (2 * L) * (2 * L) < h * h := by
      have e : (2 * L) * (2 * L) = 4 * (L * L) := by grind
      omega
    exact sq_lt k0 this
  obtain ⟨p, q, hpq, hq⟩ : ∃ p q : Int, p + q = h ∧ (p = q ∨ p = q + 1) := ⟨h - h / 2, h / 2, by omega, by omega⟩
  have area : A ≤ p * q := by
    rcases hq with e | e
    · subst e
      have e2 : h * h = 4 * (p * p) := by rw [← hpq]; grind
      omega
    · subst e
      have e2 : h * h = 4 * ((q + 1) * q) + 1 := by rw [← hpq]; grind
      omega
  refine ⟨⟨p, q, ⟨by omega, by omega, by omega⟩, by omega⟩, fun p q b => ?_⟩
  obtain ⟨b1, b2, b3⟩ := b
  have h4 := four p q
  have : (h - 1) * (h - 1) < (p + q) * (p + q) := by omega
  have := sq_lt (show 0 ≤ p + q by omega) this
  omega
end Fewest
namespace Fewest
theorem lip_y {x y u u' y' n m : Int} (hy : y' = y + 1 ∨ y' = y - 1) (hu : ab u' ≤ ab u + ab x) (h : Least (ab x) (ab y) (ab u) n) (g : Least (ab x) (ab y') (ab u') m) : m ≤ n + 1 :=
  lip_x (x := y) (y := x) hy hu h.swap g.swap
/-- a least number is as great as the sides, and goes with them by two -/
theorem Least.ge {x y u n : Int} (h : Least (ab x) (ab y) (ab u) n) : ab x + ab y ≤ n := by
  obtain ⟨p, q, ⟨b1, b2, _⟩, e⟩ := h.has
  omega
theorem Least.par {x y u n : Int} (h : Least (ab x) (ab y) (ab u) n) : n % 2 = (x + y) % 2 := by
  obtain ⟨p, q, _, e⟩ := h.has
  unfold ab at e
  omega
/-- 0 just at home -/
theorem Least.zero {x y u n : Int} (h : Least (ab x) (ab y) (ab u) n) : n = 0 ↔ x = 0 ∧ y = 0 ∧ u = 0 := by
  obtain ⟨p, q, ⟨b1, b2, b3⟩, e⟩ := h.has
  constructor
  · intro z
    subst z
    have hx : 0 ≤ ab x := by unfold ab; omega
    have hy : 0 ≤ ab y := by unfold ab; omega
    have p0 : p = 0 := by omega
    have q0 : q = 0 := by omega
    subst p0; subst q0
    have x0 : x = 0 := by unfold ab at b1; omega
    have y0 : y = 0 := by unfold ab at b2; omega
    subst x0; subst y0
    refine ⟨rfl, rfl, ?_⟩
    have z : ab 0 = 0 := rfl
    rw [z] at b3
    unfold ab at b3
    omega
  · rintro ⟨rfl, rfl, rfl⟩
    have z : ab 0 = 0 := rfl
    have g := h.ge
    rw [z] at h g
    have := h.low 0 0 ⟨by decide, by decide, by decide⟩
    omega
/-- where a box is that is better by what is wanted, the least number is less -/
theorem Least.lt {X Y U X' Y' U' p q p' q' n m : Int} (e : n = 2 * (p + q) - X - Y) (g : Least X' Y' U' m) (b : Box X' Y' U' p' q') (l : 2 * (p' + q') - X' - Y' < 2 * (p + q) - X - Y) : m < n := by
  have := g.low p' q' b
  omega
theorem ab_pos {x : Int} (h : 0 ≤ x) : ab x = x := by unfold ab; omega
theorem ab_neg {x : Int} : ab (-x) = ab x := by unfold ab; omega
/-- from a place in the first quarter with u ≥ 0 some step leads nearer: e, w or s -/
theorem down_first {x y u n : Int} (hx : 0 ≤ x) (hy : 0 ≤ y) (hu : 0 ≤ u) (par : (u - x * y) % 2 = 0) (nz : ¬(x = 0 ∧ y = 0 ∧ u = 0)) (h : Least x y u n) :
    (∃ p q, Box (ab (x + 1)) (ab y) (ab (u - y)) p q ∧ 2 * (p + q) - ab (x + 1) - ab y < n) ∨
    (∃ p q, Box (ab (x - 1)) (ab y) (ab (u + y)) p q ∧ 2 * (p + q) - ab (x - 1) - ab y < n) ∨
    (∃ p q, Box (ab x) (ab (y - 1)) (ab (u - x)) p q ∧ 2 * (p + q) - ab x - ab (y - 1) < n) := by
  obtain ⟨p, q, ⟨b1, b2, b3⟩, e⟩ := h.has
  have xy0 : 0 ≤ x * y := Int.mul_nonneg hx hy
  rcases (show u ≤ x * y ∨ x * y < u by omega) with c | c
  · -- within the sides
    have nn := h.low x y ⟨Int.le_refl _, Int.le_refl _, by omega⟩
    have ge : x + y ≤ n := by omega
    have en : n = x + y := by omega
    rcases (show y = 0 ∨ 1 ≤ y by omega) with hy0 | hy1
    · subst hy0
      have u0 : u = 0 := by simp at c; omega
      subst u0
      have x1 : 1 ≤ x := by
        rcases (show x = 0 ∨ 1 ≤ x by omega) with z | z
        · exact absurd ⟨z, rfl, rfl⟩ nz
        · exact z
      have z : ab 0 = 0 := rfl
      refine .inr (.inl ⟨x - 1, 0, ⟨by unfold ab; omega, by rw [z]; exact Int.le_refl _, ?_⟩, by unfold ab; omega⟩)
      rw [show (0 : Int) + 0 = 0 from rfl, z, Int.mul_zero, Int.mul_zero]
      decide
    · rcases (show x ≤ u ∨ u < x by omega) with d | d
      · -- s
        refine .inr (.inr ⟨x, y - 1, ⟨by unfold ab; omega, by unfold ab; omega, ?_⟩, by unfold ab; omega⟩)
        have e1 : ab x = x := by unfold ab; omega
        have e2 : ab (y - 1) = y - 1 := by unfold ab; omega
        have e3 : ab (u - x) = u - x := by unfold ab; omega
        rw [e1, e2, e3, Int.mul_sub]
        omega
      · rcases (show y = 1 ∨ 2 ≤ y by omega) with z | z
        · subst z
          -- w
          refine .inr (.inl ⟨x - 1, 1, ⟨by unfold ab; omega, by unfold ab; omega, ?_⟩, by unfold ab; omega⟩)
          have e1 : ab (x - 1) = x - 1 := by unfold ab; omega
          have e2 : ab (u + 1) = u + 1 := by unfold ab; omega
          have e3 : ab 1 = 1 := rfl
          rw [e1, e2, e3]
          omega
        · refine .inr (.inr ⟨x, y - 1, ⟨by unfold ab; omega, by unfold ab; omega, ?_⟩, by unfold ab; omega⟩)
          have e1 : ab x = x := by unfold ab; omega
          have e2 : ab (y - 1) = y - 1 := by unfold ab; omega
          have e3 : ab (u - x) = x - u := by unfold ab; omega
          have e4 : x * 2 ≤ x * y := Int.mul_le_mul_of_nonneg_left z hx
          rw [e1, e2, e3, Int.mul_sub]
          omega
  · -- beyond
    rcases (show x + 1 ≤ p ∨ p = x by omega) with d | d
    · rcases (show y ≤ u ∨ u < y by omega) with f | f
      · -- e, the same box
        refine .inl ⟨p, q, ⟨by unfold ab; omega, by unfold ab; omega, ?_⟩, by unfold ab; omega⟩
        have e1 : ab (x + 1) = x + 1 := by unfold ab; omega
        have e2 : ab y = y := by unfold ab; omega
        have e3 : ab (u - y) = u - y := by unfold ab; omega
        rw [e1, e2, e3, Int.add_mul]
        omega
      · have x0 : x = 0 := by
          rcases (show x = 0 ∨ 1 ≤ x by omega) with z | z
          · exact z
          · have := mul_mono z hy
            omega
        subst x0
        refine .inl ⟨1, y, ⟨by unfold ab; omega, by unfold ab; omega, ?_⟩, by unfold ab; omega⟩
        have e1 : ab (0 + 1) = 1 := by unfold ab; omega
        have e2 : ab y = y := by unfold ab; omega
        have e3 : ab (u - y) = y - u := by unfold ab; omega
        rw [e1, e2, e3]
        omega
    · subst d
      have x1 : 1 ≤ p := by
        rcases (show p = 0 ∨ 1 ≤ p by omega) with z | z
        · subst z; simp at b3 c; omega
        · exact z
      have q1 : y + 1 ≤ q := by
        rcases (show q = y ∨ y + 1 ≤ q by omega) with z | z
        · subst z; omega
        · exact z
      rcases (show y = 0 ∨ 1 ≤ y by omega) with hy0 | hy1
      · subst hy0
        rcases (show p ≤ u ∨ u < p by omega) with f | f
        · refine .inr (.inr ⟨p, q, ⟨by unfold ab; omega, by unfold ab; omega, ?_⟩, by unfold ab; omega⟩)
          have e1 : ab p = p := by unfold ab; omega
          have e2 : ab (0 - 1) = 1 := by unfold ab; omega
          have e3 : ab (u - p) = u - p := by unfold ab; omega
          rw [e1, e2, e3]
          simp at b3
          omega
        · refine .inr (.inr ⟨p, 1, ⟨by unfold ab; omega, by unfold ab; omega, ?_⟩, by unfold ab; omega⟩)
          have e1 : ab p = p := by unfold ab; omega
          have e2 : ab (0 - 1) = 1 := by unfold ab; omega
          have e3 : ab (u - p) = p - u := by unfold ab; omega
          rw [e1, e2, e3]
          omega
      · have pu : p ≤ u := by
          have : p * 1 ≤ p * y := Int.mul_le_mul_of_nonneg_left hy1 hx
          omega
        refine .inr (.inr ⟨p, q - 1, ⟨by unfold ab; omega, by unfold ab; omega, ?_⟩, by unfold ab; omega⟩)
        have e1 : ab p = p := by unfold ab; omega
        have e2 : ab (y - 1) = y - 1 := by unfold ab; omega
        have e3 : ab (u - p) = u - p := by unfold ab; omega
        rw [e1, e2, e3, Int.mul_sub, Int.mul_sub]
        omega
end Fewest
namespace Fewest
/-- a box that is better than n -/
def D (x y u n : Int) : Prop := ∃ p q, Box (ab x) (ab y) (ab u) p q ∧ 2 * (p + q) - ab x - ab y < n
/-- one of the four steps leads nearer -/
def Near (x y u n : Int) : Prop := D (x + 1) y (u - y) n ∨ D (x - 1) y (u + y) n ∨ D x (y + 1) (u + x) n ∨ D x (y - 1) (u - x) n
theorem D.same {x y u x' y' u' n : Int} (h : D x y u n) (h1 : ab x' = ab x) (h2 : ab y' = ab y) (h3 : ab u' = ab u) : D x' y' u' n := by
  unfold D
  rw [h1, h2, h3]
  exact h
theorem D.swap {x y u x' y' u' n : Int} (h : D x y u n) (h1 : ab x' = ab y) (h2 : ab y' = ab x) (h3 : ab u' = ab u) : D x' y' u' n := by
  unfold D
  rw [h1, h2, h3]
  obtain ⟨p, q, b, l⟩ := h
  exact ⟨q, p, b.swap, by omega⟩
theorem Near.m1 {x y u n : Int} (h : Near (-x) y (-u) n) : Near x y u n := by
  rcases h with h | h | h | h
  · exact .inr (.inl (h.same (by unfold ab; omega) rfl (by unfold ab; omega)))
  · exact .inl (h.same (by unfold ab; omega) rfl (by unfold ab; omega))
  · exact .inr (.inr (.inl (h.same (by unfold ab; omega) rfl (by unfold ab; omega))))
  · exact .inr (.inr (.inr (h.same (by unfold ab; omega) rfl (by unfold ab; omega))))
theorem Near.m2 {x y u n : Int} (h : Near x (-y) (-u) n) : Near x y u n := by
  rcases h with h | h | h | h
  · exact .inl (h.same rfl (by unfold ab; omega) (by unfold ab; omega))
  · exact .inr (.inl (h.same rfl (by unfold ab; omega) (by unfold ab; omega)))
  · exact .inr (.inr (.inr (h.same rfl (by unfold ab; omega) (by unfold ab; omega))))
  · exact .inr (.inr (.inl (h.same rfl (by unfold ab; omega) (by unfold ab; omega))))
theorem Near.m3 {x y u n : Int} (h : Near y x (-u) n) : Near x y u n := by
  rcases h with h | h | h | h
  · exact .inr (.inr (.inl (h.swap rfl rfl (by unfold ab; omega))))
  · exact .inr (.inr (.inr (h.swap rfl rfl (by unfold ab; omega))))
  · exact .inl (h.swap rfl rfl (by unfold ab; omega))
  · exact .inr (.inl (h.swap rfl rfl (by unfold ab; omega)))
theorem near0 {x y u n : Int} (hx : 0 ≤ x) (hy : 0 ≤ y) (hu : 0 ≤ u) (par : (u - x * y) % 2 = 0) (nz : ¬(x = 0 ∧ y = 0 ∧ u = 0)) (h : Least (ab x) (ab y) (ab u) n) : Near x y u n := by
  rw [ab_pos hx, ab_pos hy, ab_pos hu] at h
  rcases down_first hx hy hu par nz h with h | h | h
  · exact .inl h
  · exact .inr (.inl h)
  · exact .inr (.inr (.inr h))
theorem near1 {x y u n : Int} (hx : 0 ≤ x) (hy : 0 ≤ y) (par : (u - x * y) % 2 = 0) (nz : ¬(x = 0 ∧ y = 0 ∧ u = 0)) (h : Least (ab x) (ab y) (ab u) n) : Near x y u n := by
  rcases (show 0 ≤ u ∨ u < 0 by omega) with c | c
  · exact near0 hx hy c par nz h
  · refine Near.m3 (near0 hy hx (by omega) ?_ (by omega) ?_)
    · rw [Int.mul_comm y x]; omega
    · rw [ab_neg]; exact h.swap
theorem near2 {x y u n : Int} (hx : 0 ≤ x) (par : (u - x * y) % 2 = 0) (nz : ¬(x = 0 ∧ y = 0 ∧ u = 0)) (h : Least (ab x) (ab y) (ab u) n) : Near x y u n := by
  rcases (show 0 ≤ y ∨ y < 0 by omega) with c | c
  · exact near1 hx c par nz h
  · refine Near.m2 (near1 hx (by omega) ?_ (by omega) ?_)
    · rw [Int.mul_neg]; omega
    · rw [ab_neg, ab_neg]; exact h
/-- from every place but home some step leads nearer -/
theorem near {x y u n : Int} (par : (u - x * y) % 2 = 0) (nz : ¬(x = 0 ∧ y = 0 ∧ u = 0)) (h : Least (ab x) (ab y) (ab u) n) : Near x y u n := by
  rcases (show 0 ≤ x ∨ x < 0 by omega) with c | c
  · exact near2 c par nz h
  · refine Near.m1 (near2 (by omega) ?_ (by omega) ?_)
    · rw [Int.neg_mul]; omega
    · rw [ab_neg, ab_neg]; exact h
/-! ### there is a least number -/
theorem sqrt_ex (n : Nat) : ∃ r : Nat, r * r ≤ n ∧ n < (r + 1) * (r + 1) := by
  induction n with
  | zero => exact ⟨0, by decide, by decide⟩
  | succ n ih =>
    obtain ⟨r, h1, h2⟩ := ih
    by_cases c : n + 1 < (r + 1) * (r + 1)
    · exact ⟨r, by omega, c⟩
    · refine ⟨r + 1, by omega, ?_⟩
      have e : (r + 1 + 1) * (r + 1 + 1) = (r + 1) * (r + 1) + 2 * r + 3 := by grind
      omega
/-- h of the formula: the root of 4 A - 1, and 1 -/
theorem half_of {A r : Int} (hr : 0 ≤ r) (h1 : r * r ≤ 4 * A - 1) (h2 : 4 * A - 1 < (r + 1) * (r + 1)) : half A (r + 1) := by
  refine ⟨by omega, by omega, ?_⟩
  rw [show r + 1 - 1 = r by omega]
  omega
theorem half_ex {A : Int} (hA : 0 < A) : ∃ h, half A h := by
  obtain ⟨r, h1, h2⟩ := sqrt_ex (4 * A - 1).toNat
  refine ⟨(r : Int) + 1, half_of (by omega) ?_ ?_⟩
  · have : ((r * r : Nat) : Int) ≤ 4 * A - 1 := by omega
    rw [Int.natCast_mul] at this
    exact this
  · have : (4 * A - 1) < (((r + 1) * (r + 1) : Nat) : Int) := by omega
    rw [Int.natCast_mul, Int.natCast_add] at this
    exact this
theorem up_ex {A L : Int} (hL : 0 < L) : A ≤ L * (-((-A) / L)) ∧ L * (-((-A) / L) - 1) < A := by
  have h1 := Int.emod_nonneg (-A) (show L ≠ 0 by omega)
  have h2 := Int.emod_lt_of_pos (-A) hL
  have h3 := Int.mul_ediv_add_emod (-A) L
  rw [Int.mul_neg, Int.mul_sub, Int.mul_neg, Int.mul_one]
  omega
/-- the formula of the fewest steps, of the longer and the shorter side and the doubled ground -/
theorem least_sorted {L S U A : Int} (hS : 0 ≤ S) (hSL : S ≤ L) (hU : 0 ≤ U) (hA : 2 * A = U + L * S) : ∃ n, Least L S U n := by
  have h0 : 0 ≤ L * S := Int.mul_nonneg (by omega) hS
  rcases (show A ≤ L * S ∨ L * S < A by omega) with c | c
  · exact ⟨_, least1 hA c⟩
  · rcases (show A ≤ L * L ∨ L * L < A by omega) with d | d
    · have hL : 0 < L := by
        rcases (show L = 0 ∨ 0 < L by omega) with z | z
        · subst z; omega
        · exact z
      exact ⟨_, least2 hS hL hA c d (up_ex hL).1 (up_ex hL).2⟩
    · obtain ⟨h, hh⟩ := half_ex (A := A) (by omega)
      exact ⟨_, least3 hS hSL hA d hh⟩
theorem least_ex {x y u : Int} (par : (u - x * y) % 2 = 0) : ∃ n, Least (ab x) (ab y) (ab u) n := by
  have hx : 0 ≤ ab x := by unfold ab; omega
  have hy : 0 ≤ ab y := by unfold ab; omega
  have hu : 0 ≤ ab u := by unfold ab; omega
  have e : (ab u + ab x * ab y) % 2 = 0 := by
    have e1 : ab x * ab y = ab (x * y) := by unfold ab; rw [Int.natAbs_mul, Int.natCast_mul]
    rw [e1]
    unfold ab
    omega
  rcases (show ab y ≤ ab x ∨ ab x ≤ ab y by omega) with c | c
  · exact least_sorted hy c hu (A := (ab u + ab x * ab y) / 2) (by omega)
  · have e' : (ab u + ab y * ab x) % 2 = 0 := by rw [Int.mul_comm]; exact e
    obtain ⟨n, h⟩ := least_sorted hx c hu (A := (ab u + ab y * ab x) / 2) (by omega)
    exact ⟨n, h.swap⟩
end Fewest
namespace Fewest
/-- n is the number of fewest steps to (x, y, a) -/
def St (x y a n : Int) : Prop := Least (ab x) (ab y) (ab (2 * a - x * y)) n
theorem st_par (x y a : Int) : (2 * a - x * y - x * y) % 2 = 0 := by omega
theorem st_ex (x y a : Int) : ∃ n, St x y a n := least_ex (st_par x y a)
theorem St.uniq {x y a n m : Int} (h : St x y a n) (g : St x y a m) : n = m := Least.uniq h g
theorem St.pos {x y a n : Int} (h : St x y a n) : 0 ≤ n := by
  have := Least.ge h
  unfold ab at this
  omega
theorem St.home {x y a n : Int} (h : St x y a n) : n = 0 ↔ x = 0 ∧ y = 0 ∧ a = 0 := by
  rw [Least.zero h]
  constructor
  · rintro ⟨rfl, rfl, h3⟩
    exact ⟨rfl, rfl, by omega⟩
  · rintro ⟨rfl, rfl, rfl⟩
    exact ⟨rfl, rfl, rfl⟩
theorem St.of_u {x y a x' y' a' n : Int} (h : St x y a n) (h1 : ab x' = ab x) (h2 : ab y' = ab y) (h3 : ab (2 * a' - x' * y') = ab (2 * a - x * y)) : St x' y' a' n := by
  unfold St
  rw [h1, h2, h3]
  exact h
theorem St.of_s {x y a x' y' a' n : Int} (h : St x y a n) (h1 : ab x' = ab y) (h2 : ab y' = ab x) (h3 : ab (2 * a' - x' * y') = ab (2 * a - x * y)) : St x' y' a' n := by
  unfold St
  rw [h1, h2, h3]
  exact Least.swap h
theorem ue (x y a : Int) : 2 * a - (x + 1) * y = (2 * a - x * y) - y := by rw [Int.add_mul]; omega
theorem uw (x y a : Int) : 2 * a - (x - 1) * y = (2 * a - x * y) + y := by rw [Int.sub_mul]; omega
theorem un (x y a : Int) : 2 * (a + x) - x * (y + 1) = (2 * a - x * y) + x := by rw [show x * (y + 1) = x * y + x by rw [Int.mul_add, Int.mul_one]]; omega
theorem us (x y a : Int) : 2 * (a - x) - x * (y - 1) = (2 * a - x * y) - x := by rw [show x * (y - 1) = x * y - x by rw [Int.mul_sub, Int.mul_one]]; omega
theorem ab_sub (u y : Int) : ab (u - y) ≤ ab u + ab y := by unfold ab; omega
theorem ab_add (u y : Int) : ab (u + y) ≤ ab u + ab y := by unfold ab; omega
/-- a step is one more or one less -/
theorem one_of {n m s t : Int} (h1 : m ≤ n + 1) (h2 : n ≤ m + 1) (p1 : n % 2 = s % 2) (p2 : m % 2 = t % 2) (st : (s - t) % 2 = 1) : m = n + 1 ∨ m = n - 1 := by omega
theorem St.e {x y a n m : Int} (h : St x y a n) (g : St (x + 1) y a m) : m = n + 1 ∨ m = n - 1 := by
  unfold St at h g
  rw [ue] at g
  have g2 := g
  refine one_of (lip_x (.inl rfl) (ab_sub _ _) h g) (lip_x (x' := x) (.inr (by omega)) (u' := 2 * a - x * y) ?_ g2 h) (Least.par h) (Least.par g) (by omega)
  have := ab_add ((2 * a - x * y) - y) y
  rw [show (2 * a - x * y) - y + y = 2 * a - x * y by omega] at this
  exact this
theorem St.w {x y a n m : Int} (h : St x y a n) (g : St (x - 1) y a m) : m = n + 1 ∨ m = n - 1 := by
  have := St.e g (by rw [show x - 1 + 1 = x by omega]; exact h)
  omega
theorem St.n {x y a n m : Int} (h : St x y a n) (g : St x (y + 1) (a + x) m) : m = n + 1 ∨ m = n - 1 := by
  unfold St at h g
  rw [un] at g
  have g2 := g
  refine one_of (lip_y (.inl rfl) (ab_add _ _) h g) (lip_y (y' := y) (.inr (by omega)) (u' := 2 * a - x * y) ?_ g2 h) (Least.par h) (Least.par g) (by omega)
  have := ab_sub ((2 * a - x * y) + x) x
  rw [show (2 * a - x * y) + x - x = 2 * a - x * y by omega] at this
  exact this
theorem St.s {x y a n m : Int} (h : St x y a n) (g : St x (y - 1) (a - x) m) : m = n + 1 ∨ m = n - 1 := by
  have := St.n g (by rw [show y - 1 + 1 = y by omega, show a - x + x = a by omega]; exact h)
  omega
theorem D.lt {x y u n m : Int} (d : D x y u n) (g : Least (ab x) (ab y) (ab u) m) : m < n := by
  obtain ⟨p, q, b, l⟩ := d
  have := g.low p q b
  omega
/-- some step leads one nearer -/
theorem St.nearer {x y a n me mw mn ms : Int} (h : St x y a n) (nz : ¬(x = 0 ∧ y = 0 ∧ a = 0)) (ge : St (x + 1) y a me) (gw : St (x - 1) y a mw) (gn : St x (y + 1) (a + x) mn) (gs : St x (y - 1) (a - x) ms) :
    me = n - 1 ∨ mw = n - 1 ∨ mn = n - 1 ∨ ms = n - 1 := by
  have oe := h.e ge
  have ow := h.w gw
  have on := h.n gn
  have os := h.s gs
  have d := near (st_par x y a) (by
    rintro ⟨rfl, rfl, h3⟩
    exact nz ⟨rfl, rfl, by omega⟩) h
  unfold St at ge gw gn gs
  rw [ue] at ge
  rw [uw] at gw
  rw [un] at gn
  rw [us] at gs
  rcases d with d | d | d | d
  · have := d.lt ge; omega
  · have := d.lt gw; omega
  · have := d.lt gn; omega
  · have := d.lt gs; omega
/-- the number of a product -/
theorem St.tri {x y a n : Int} (h : St x y a n) : ∀ (k : Nat) {z w c m t : Int}, St z w c m → m = k → St (x + z) (y + w) (a + c + x * w) t → t ≤ n + m := by
  intro k
  induction k with
  | zero =>
    intro z w c m t g e f
    have e0 : m = 0 := e
    obtain ⟨rfl, rfl, rfl⟩ := (St.home g).mp e0
    rw [Int.mul_zero, Int.add_zero, Int.add_zero, Int.add_zero, Int.add_zero] at f
    have := St.uniq h f
    omega
  | succ k ih =>
    intro z w c m t g e f
    have nz : ¬(z = 0 ∧ w = 0 ∧ c = 0) := fun q => by
      have := (St.home g).mpr q
      omega
    obtain ⟨me, ge⟩ := st_ex (z + 1) w c
    obtain ⟨mw, gw⟩ := st_ex (z - 1) w c
    obtain ⟨mn, gn⟩ := st_ex z (w + 1) (c + z)
    obtain ⟨ms, gs⟩ := st_ex z (w - 1) (c - z)
    rcases g.nearer nz ge gw gn gs with q | q | q | q
    · obtain ⟨t', f'⟩ := st_ex (x + (z + 1)) (y + w) (a + c + x * w)
      have i := ih ge (by omega) f'
      rw [show x + (z + 1) = x + z + 1 by omega] at f'
      have := f.e f'
      omega
    · obtain ⟨t', f'⟩ := st_ex (x + (z - 1)) (y + w) (a + c + x * w)
      have i := ih gw (by omega) f'
      rw [show x + (z - 1) = x + z - 1 by omega] at f'
      have := f.w f'
      omega
    · obtain ⟨t', f'⟩ := st_ex (x + z) (y + (w + 1)) (a + (c + z) + x * (w + 1))
      have i := ih gn (by omega) f'
      rw [show y + (w + 1) = y + w + 1 by omega, show a + (c + z) + x * (w + 1) = a + c + x * w + (x + z) by grind] at f'
      have := f.n f'
      omega
    · obtain ⟨t', f'⟩ := st_ex (x + z) (y + (w - 1)) (a + (c - z) + x * (w - 1))
      have i := ih gs (by omega) f'
      rw [show y + (w - 1) = y + w - 1 by omega, show a + (c - z) + x * (w - 1) = a + c + x * w - (x + z) by grind] at f'
      have := f.s f'
      omega
theorem St.triangle {x y a n z w c m t : Int} (h : St x y a n) (g : St z w c m) (f : St (x + z) (y + w) (a + c + x * w) t) : t ≤ n + m := h.tri m.toNat g (by have := g.pos; omega) f
theorem St.parity {x y a n z w c m t : Int} (h : St x y a n) (g : St z w c m) (f : St (x + z) (y + w) (a + c + x * w) t) : (n + m - t) % 2 = 0 := by
  have := Least.par h
  have := Least.par g
  have := Least.par f
  omega
end Fewest
namespace Fewest
theorem half2 {s k : Int} (hs : 1 ≤ s) (hk : k = 0 ∨ k = 1) : half (s * (s + k)) (2 * s + k) := by
  rcases hk with rfl | rfl
  · refine ⟨by omega, ?_, ?_⟩
    · have e : (2 * s + 0) * (2 * s + 0) = 4 * (s * (s + 0)) := by grind
      omega
    · have e : (2 * s + 0 - 1) * (2 * s + 0 - 1) = 4 * (s * (s + 0)) - 4 * s + 1 := by grind
      omega
  · refine ⟨by omega, ?_, ?_⟩
    · have e : (2 * s + 1) * (2 * s + 1) = 4 * (s * (s + 1)) + 1 := by grind
      omega
    · have e : (2 * s + 1 - 1) * (2 * s + 1 - 1) = 4 * (s * (s + 1)) - 4 * s := by grind
      omega
theorem half3 {s k : Int} (hs : 1 ≤ s) (hk : k = 0 ∨ k = 1) : half (s * (s + k) + 1) (2 * s + k + 1) := by
  rcases hk with rfl | rfl
  · refine ⟨by omega, ?_, ?_⟩
    · have e : (2 * s + 0 + 1) * (2 * s + 0 + 1) = 4 * (s * (s + 0)) + 4 * s + 1 := by grind
      omega
    · have e : (2 * s + 0 + 1 - 1) * (2 * s + 0 + 1 - 1) = 4 * (s * (s + 0)) := by grind
      omega
  · refine ⟨by omega, ?_, ?_⟩
    · have e : (2 * s + 1 + 1) * (2 * s + 1 + 1) = 4 * (s * (s + 1)) + 4 * s + 4 := by grind
      omega
    · have e : (2 * s + 1 + 1 - 1) * (2 * s + 1 + 1 - 1) = 4 * (s * (s + 1)) + 1 := by grind
      omega
theorem st00 {a h : Int} (ha : 0 < a) (hh : half a h) : St 0 0 a (2 * h) ∧ St 0 0 (-a) (2 * h) := by
  have z : ab 0 = 0 := rfl
  have l : Least 0 0 (2 * a) (2 * h) := by
    have := least3 (L := 0) (S := 0) (U := 2 * a) (A := a) (h := h) (by decide) (by decide) (by omega) (by omega) hh
    rw [show 2 * h - 0 - 0 = 2 * h by omega] at this
    exact this
  refine ⟨?_, ?_⟩
  · unfold St
    rw [z, show ab (2 * a - 0 * 0) = 2 * a by unfold ab; omega]
    exact l
  · unfold St
    rw [z, show ab (2 * -a - 0 * 0) = 2 * a by unfold ab; omega]
    exact l
/-- closed walks round a square and an oblong -/
theorem closed1 {s k : Int} (hs : 1 ≤ s) (hk : k = 0 ∨ k = 1) : St 0 0 (s * (s + k)) (4 * s + 2 * k) ∧ St 0 0 (-(s * (s + k))) (4 * s + 2 * k) ∧ St 0 0 (s * (s + k) + 1) (4 * s + 2 * k + 2) := by
  have p : 0 < s * (s + k) := Int.mul_pos (by omega) (by omega)
  have h1 := st00 p (half2 hs hk)
  have h2 := st00 (by omega) (half3 hs hk)
  rw [show 2 * (2 * s + k) = 4 * s + 2 * k by omega] at h1
  rw [show 2 * (2 * s + k + 1) = 4 * s + 2 * k + 2 by omega] at h2
  exact ⟨h1.1, h1.2, h2.1⟩
section
variable {w h : Int} (hh : 1 ≤ h) (hw : h ≤ w)
include hh hw
theorem side1 : St w h (w * h) (w + h) ∧ St w h 0 (w + h) := by
  have p : 0 ≤ w * h := Int.mul_nonneg (by omega) (by omega)
  have l := least1 (L := w) (S := h) (U := w * h) (A := w * h) (by omega) (by omega)
  refine ⟨?_, ?_⟩ <;> unfold St <;> rw [ab_pos (show 0 ≤ w by omega), ab_pos (show 0 ≤ h by omega)]
  · rw [show ab (2 * (w * h) - w * h) = w * h by unfold ab; omega]; exact l
  · rw [show ab (2 * 0 - w * h) = w * h by unfold ab; omega]; exact l
theorem side2 : St w 0 (w * h) (w + 2 * h) := by
  have p : 0 < w * h := Int.mul_pos (by omega) (by omega)
  have e1 : w * h ≤ w * w := Int.mul_le_mul_of_nonneg_left hw (by omega)
  have e2 : w * (h - 1) = w * h - w := by rw [Int.mul_sub, Int.mul_one]
  have l := least2 (L := w) (S := 0) (U := 2 * (w * h)) (A := w * h) (c := h) (by decide) (by omega) (by omega) (by omega) e1 (by omega) (by omega)
  unfold St
  rw [ab_pos (show 0 ≤ w by omega), show ab 0 = 0 from rfl, show ab (2 * (w * h) - w * 0) = 2 * (w * h) by unfold ab; omega]
  rw [show 2 * h + w - 0 = w + 2 * h by omega] at l
  exact l
theorem side3 : St w h (w * h + 1) (w + h + 2) := by
  have p : 0 < w * h := Int.mul_pos (by omega) (by omega)
  unfold St
  rw [ab_pos (show 0 ≤ w by omega), ab_pos (show 0 ≤ h by omega), show ab (2 * (w * h + 1) - w * h) = w * h + 2 by unfold ab; omega]
  rcases (show h = w ∨ h + 1 ≤ w by omega) with e | e
  · subst e
    have l := least3 (L := h) (S := h) (U := h * h + 2) (A := h * h + 1) (h := 2 * h + 0 + 1) (by omega) (by omega) (by omega) (by omega) (by have := half3 hh (k := 0) (.inl rfl); rw [show h + 0 = h by omega] at this; exact this)
    rw [show 2 * (2 * h + 0 + 1) - h - h = h + h + 2 by omega] at l
    exact l
  · have e1 : w * (h + 1) ≤ w * w := Int.mul_le_mul_of_nonneg_left e (by omega)
    have e2 : w * (h + 1) = w * h + w := by rw [Int.mul_add, Int.mul_one]
    have e3 : h + 1 - 1 = h := by omega
    have l := least2 (L := w) (S := h) (U := w * h + 2) (A := w * h + 1) (c := h + 1) (by omega) (by omega) (by omega) (by omega) (by omega) (by omega) (by rw [e3]; omega)
    rw [show 2 * (h + 1) + w - h = w + h + 2 by omega] at l
    exact l
theorem side4 : St w 0 (-w * h + 1) (w + 2 * h - 2 * (if w = 1 then 1 else 0)) := by
  have p : 0 < w * h := Int.mul_pos (by omega) (by omega)
  have e1 : w * h ≤ w * w := Int.mul_le_mul_of_nonneg_left hw (by omega)
  have e2 : w * (h - 1) = w * h - w := by rw [Int.mul_sub, Int.mul_one]
  unfold St
  rw [ab_pos (show 0 ≤ w by omega), show ab 0 = 0 from rfl, show ab (2 * (-w * h + 1) - w * 0) = 2 * (w * h - 1) by unfold ab; rw [Int.neg_mul]; omega]
  by_cases c : w = 1
  · subst c
    have : h = 1 := by omega
    subst this
    exact least1 (L := 1) (S := 0) (U := 0) (A := 0) (by decide) (by decide)
  · rw [if_neg c]
    have l := least2 (L := w) (S := 0) (U := 2 * (w * h - 1)) (A := w * h - 1) (c := h) (by decide) (by omega) (by omega) ?_ (by omega) (by omega) (by omega)
    · rw [show 2 * h + w - 0 = w + 2 * h - 2 * 0 by omega] at l
      exact l
    · have : 2 * 1 ≤ w * h := Int.mul_le_mul (by omega) hh (by decide) (by omega)
      omega
end
/-- the same at places that turning and the mirrors make -/
theorem ways5 {x y a n : Int} (h : St x y a n) : St (-y) x (a - x * y) n ∧ St (-x) (-y) a n ∧ St (-x) y (-a) n ∧ St y x (x * y - a) n ∧ St (-x) (-y) (x * y - a) n := by
  refine ⟨h.of_s ab_neg rfl ?_, h.of_u ab_neg ab_neg ?_, h.of_u ab_neg rfl ?_, h.of_s rfl rfl ?_, h.of_u ab_neg ab_neg ?_⟩
  · rw [Int.neg_mul, Int.mul_comm y x]; unfold ab; omega
  · rw [Int.neg_mul_neg]
  · rw [Int.neg_mul]; unfold ab; omega
  · rw [Int.mul_comm y x]; unfold ab; omega
  · rw [Int.neg_mul_neg]; unfold ab; omega
end Fewest

set_option linter.all false
set_option maxRecDepth 100000
set_option maxHeartbeats 8000000
namespace AW
open PySem PySem.Spec PyProof.Rows L2
section
variable {P : Program} {w : World} {K : PySem.W.Frag} {mg : Str → Option Value} {base : Heap}
/-- the whole root, by what it is -/
def rRoot : List V → Hp → VK → Prop := fun vs H Q => ∃ a : Int, vs = [.int a] ∧ 0 ≤ a ∧ Bd 12000 a ∧ ∀ r : Int, 0 ≤ r → r * r ≤ a → a < (r + 1) * (r + 1) → Q (.int r) H
theorem Bd.one {k : Nat} (h : 1 ≤ k) : Bd k 1 := by
  show 1 < 2 ^ k
  exact Nat.lt_of_lt_of_le (by decide : 1 < 2 ^ 1) (Nat.pow_le_pow_right (by decide) h)
theorem cr_root {X : Cx} : CallR X (.builtin "math.isqrt") rRoot := by
  intro pins s σ H vs us Q I r h
  obtain ⟨a, rfl, a0, hb, q⟩ := h
  obtain ⟨u, rfl, t, rfl⟩ := vals1 r
  have l : a.toNat.log2 ≤ 12000 := by
    refine PySem.W.mg_log ?_
    have : a.natAbs = a.toNat := by omega
    rw [← this]
    exact Nat.lt_trans hb (Nat.pow_lt_pow_right (by decide) (by decide))
  have sp := Float64.isqrt_spec a.toNat
  refine call_function_meets PySem.W.MGF.kind_isqrt PySem.W.MGF.plain_isqrt PySem.W.MGF.entry_isqrt (PySem.W.MGF.args_isqrt _) (PySem.W.mg_run_isqrt a t (by omega) (by omega) (by omega)).meets ?_
  refine ⟨.int _, H, I.tok _, ⟨_, rfl⟩, q _ (by omega) ?_ ?_⟩
  · have := sp.1
    have e : ((Float64.isqrt a.toNat * Float64.isqrt a.toNat : Nat) : Int) ≤ a := by omega
    rw [Int.natCast_mul] at e
    exact e
  · have e : a < (((Float64.isqrt a.toNat + 1) * (Float64.isqrt a.toNat + 1) : Nat) : Int) := by omega
    rw [Int.natCast_mul, Int.natCast_add] at e
    exact e
theorem lg {b : Int} (h : Bd 8000 b) : b.natAbs.log2 < 9000 := by have := PySem.W.mg_log (k := 8000) (Nat.lt_trans h (Nat.pow_lt_pow_right (by decide) (by decide))); omega
def sp_quotient_up (T : Tx K mg) : Sp := fun vs H Q E => ∃ a b : Int, vs = [.int a, .int b] ∧ 0 < b ∧ Bd 8000 a ∧ Bd 8000 b ∧ Q (.int (-((-a) / b))) H
theorem ok_quotient_up (T : Tx K mg) : FnOk P w K mg base (L2.CX P w) 1 T.a_quotient_up T.d_quotient_up P_quotient_up (sp_quotient_up T) := by
  refine T.F_quotient_up.okX sc_quotient_up (fun vs H Q E h => ?_) (fun cdv A outer s H vs Q E hr h => ?_)
  · obtain ⟨a, b, rfl, _⟩ := h
    rfl
  · obtain ⟨a, b, rfl, b0, ha, hb, k⟩ := h
    refine ⟨_, (pss_one (ps_ret (pe_un un_neg (pe_op op_fdivW (pe_un un_neg (pv 0)) (pv 1))))), ?_⟩
    refine ⟨_, rfl, _, rfl, _, rfl, _, _, rfl, rfl, ⟨b0, lg hb⟩, _, rfl, k⟩
def sp_half_outline (T : Tx K mg) : Sp := fun vs H Q E => ∃ a : Int, vs = [.int a] ∧ 0 < a ∧ Bd 8000 a ∧ ∀ h : Int, Fewest.half a h → Q (.int h) H
theorem ok_half_outline (T : Tx K mg) : FnOk P w K mg base (L2.CX P w) 1 T.a_half_outline T.d_half_outline P_half_outline (sp_half_outline T) := by
  refine T.F_half_outline.okX sc_half_outline (fun vs H Q E h => ?_) (fun cdv A outer s H vs Q E hr h => ?_)
  · obtain ⟨a, rfl, _⟩ := h
    rfl
  · obtain ⟨a, rfl, a0, ha, k⟩ := h
    refine ⟨_, (pss_one (ps_ret (pe_op op_add (pe_callBfun cr_root (by rfl) T.mi_isqrt (pa_cons (pe_op op_sub (pe_op op_mul pe_int (pv 0)) pe_int) pa_nil)) pe_int))), ?_⟩
    have b4 : Bd 12000 (4 * a - 1) := ((Bd.mul (k := 3) (m := 8000) (by show (4 : Int).natAbs < 2 ^ 3; decide) ha).sub (Bd.one (k := 8003) (by decide))).mono (by decide)
    refine ⟨_, rfl, _, _, rfl, rfl, .inl ⟨by decide, by decide⟩, _, _, rfl, rfl, _, rfl, by omega, b4, fun r r0 h1 h2 => ?_⟩
    exact ⟨_, _, rfl, rfl, k _ (Fewest.half_of r0 h1 h2)⟩
theorem cmw {i j : Int} (h : Bd 8000 i) (g : Bd 8000 j) : CMulW i j := by have := lg h; have := lg g; unfold CMulW; omega
theorem ab_if (x : Int) : (if x < 0 then -x else x) = Fewest.ab x := by unfold Fewest.ab; split <;> omega
theorem Bd.ab {k : Nat} {x : Int} (h : Bd k x) : Bd k (Fewest.ab x) := by unfold Bd Fewest.ab at *; omega
def sp_fewest_steps (T : Tx K mg) : Sp := fun vs H Q E => ∃ (p : Addr) (x y a : Int), vs = [.ref p] ∧ PlAt T H p x y a ∧ Bd 3000 x ∧ Bd 3000 y ∧ Bd 3000 a ∧ ∀ n : Int, Fewest.St x y a n → Q (.int n) H
theorem ok_fewest_steps (T : Tx K mg) : FnOk P w K mg base (L2.CX P w) 2 T.a_fewest_steps T.d_fewest_steps P_fewest_steps (sp_fewest_steps T) := by
  have G_quotient_up : FnOk P w K mg base (L2.CX P w) 1 _ _ _ _ := ok_quotient_up T
  have G_half_outline : FnOk P w K mg base (L2.CX P w) 1 _ _ _ _ := ok_half_outline T
  refine T.F_fewest_steps.okX sc_fewest_steps (fun vs H Q E h => ?_) (fun cdv A outer s H vs Q E hr h => ?_)
  · obtain ⟨p, x, y, a, rfl, _⟩ := h
    rfl
  · obtain ⟨p, x, y, a, rfl, hp, bx, by', ba, k⟩ := h
    refine ⟨_, (pss_cons (ps_set (i := 1) sc_fewest_steps.nd rfl (.inl rfl) (pe_callB (call_max2 rfl) (by rfl) T.n_max (by decide +kernel) (pa_cons (pe_callB call_abs (by rfl) T.n_abs (by decide +kernel) (pa_cons (pe_fld (pv 0) rfl) pa_nil)) (pa_cons (pe_callB call_abs (by rfl) T.n_abs (by decide +kernel) (pa_cons (pe_fld (pv 0) rfl) pa_nil)) pa_nil))))
 (pss_cons (ps_set (i := 2) sc_fewest_steps.nd rfl (.inl rfl) (pe_callB (call_min2 rfl) (by rfl) T.n_min (by decide +kernel) (pa_cons (pe_callB call_abs (by rfl) T.n_abs (by decide +kernel) (pa_cons (pe_fld (pv 0) rfl) pa_nil)) (pa_cons (pe_callB call_abs (by rfl) T.n_abs (by decide +kernel) (pa_cons (pe_fld (pv 0) rfl) pa_nil)) pa_nil))))
 (pss_cons (ps_set (i := 3) sc_fewest_steps.nd rfl (.inl rfl) (pe_op op_fdivW (pe_op op_add (pe_callB call_abs (by rfl) T.n_abs (by decide +kernel) (pa_cons (pe_op op_sub (pe_op op_mul pe_int (pe_fld (pv 0) rfl)) (pe_op op_mulW (pe_fld (pv 0) rfl) (pe_fld (pv 0) rfl))) pa_nil)) (pe_op op_mulW (pv 1) (pv 2))) pe_int))
 (pss_cons (ps_if (pt_cmpR op_le (pv 3) (pe_op op_mulW (pv 1) (pv 2)) (nomark _))
 (pss_one (ps_ret (pe_op op_add (pv 1) (pv 2))))
 pss_nil)
 (pss_cons (ps_if (pt_cmpR op_le (pv 3) (pe_op op_mulW (pv 1) (pv 1)) (nomark _))
 (pss_one (ps_ret (pe_op op_sub (pe_op op_add (pe_op op_mul pe_int (pe_call G_quotient_up (hr.mono (by decide)) (by rfl) T.g_quotient_up T.F_quotient_up.kp T.b_quotient_up .nil passL (pa_cons (pv 3) (pa_cons (pv 1) pa_nil)))) (pv 1)) (pv 2))))
 pss_nil)
 (pss_one (ps_ret (pe_op op_sub (pe_op op_sub (pe_op op_mul pe_int (pe_call G_half_outline (hr.mono (by decide)) (by rfl) T.g_half_outline T.F_half_outline.kp T.b_half_outline .nil passL (pa_cons (pv 3) pa_nil))) (pv 1)) (pv 2))))))))), ?_⟩
    obtain ⟨dx, e⟩ := id hp
    refine ⟨_, rfl, p, _, dx, _, _, rfl, e, T.cl_Place, T.na_Place_x, rfl, _, rfl, _, rfl, p, _, dx, _, _, rfl, e, T.cl_Place, T.na_Place_y, rfl, _, rfl, _, _, rfl, ?_⟩
    refine ⟨_, rfl, p, _, dx, _, _, rfl, e, T.cl_Place, T.na_Place_x, rfl, _, rfl, _, rfl, p, _, dx, _, _, rfl, e, T.cl_Place, T.na_Place_y, rfl, _, rfl, _, _, rfl, ?_⟩
    rw [ab_if, ab_if]
    generalize hX : Fewest.ab x = X
    generalize hY : Fewest.ab y = Y
    obtain ⟨L, S, hL, hS, hLS⟩ : ∃ L S : Int, (if Y > X then Y else X) = L ∧ (if Y < X then Y else X) = S ∧ ((L = X ∧ S = Y ∧ Y ≤ X) ∨ (L = Y ∧ S = X ∧ X ≤ Y)) := by
      refine ⟨_, _, rfl, rfl, ?_⟩
      split <;> split <;> omega
    rw [hL, hS]
    have bX : Bd 3000 X := by rw [← hX]; exact bx.ab
    have bY : Bd 3000 Y := by rw [← hY]; exact by'.ab
    have bL : Bd 3000 L := by rcases hLS with ⟨e1, _⟩ | ⟨e1, _⟩ <;> rw [e1] <;> assumption
    have bS : Bd 3000 S := by rcases hLS with ⟨_, e1, _⟩ | ⟨_, e1, _⟩ <;> rw [e1] <;> assumption
    have mL : Bd 8000 L := bL.mono (by decide)
    have mS : Bd 8000 S := bS.mono (by decide)
    refine ⟨_, rfl, p, _, dx, _, _, rfl, e, T.cl_Place, T.na_Place_area, rfl, _, _, rfl, rfl, .inl ⟨by decide, by decide⟩, ?_⟩
    refine ⟨_, rfl, p, _, dx, _, _, rfl, e, T.cl_Place, T.na_Place_x, rfl, _, rfl, p, _, dx, _, _, rfl, e, T.cl_Place, T.na_Place_y, rfl, _, _, rfl, rfl, cmw (bx.mono (by decide)) (by'.mono (by decide)), ?_⟩
    refine ⟨_, _, rfl, rfl, _, rfl, _, rfl, _, rfl, _, _, rfl, rfl, cmw mL mS, _, _, rfl, rfl, _, _, rfl, rfl, ⟨by decide, by decide⟩, ?_⟩
    rw [ab_if]
    have bU : Bd 7000 (Fewest.ab (2 * a - x * y)) := (((Bd.mul (k := 2) (m := 3000) (by show (2 : Int).natAbs < 2 ^ 2; decide) ba).mono (show 2 + 3000 ≤ 6000 by decide)).sub (bx.mul by')).ab.mono (by decide)
    have U0 : 0 ≤ Fewest.ab (2 * a - x * y) := by unfold Fewest.ab; omega
    have par : (Fewest.ab (2 * a - x * y) + X * Y) % 2 = 0 := by
      have e1 : X * Y = Fewest.ab (x * y) := by rw [← hX, ← hY]; unfold Fewest.ab; rw [Int.natAbs_mul, Int.natCast_mul]
      rw [e1]
      unfold Fewest.ab
      omega
    have X0 : 0 ≤ X := by rw [← hX]; unfold Fewest.ab; omega
    have Y0 : 0 ≤ Y := by rw [← hY]; unfold Fewest.ab; omega
    have LSXY : L * S = X * Y := by
      rcases hLS with ⟨e1, e2, _⟩ | ⟨e1, e2, _⟩
      · rw [e1, e2]
      · rw [e1, e2, Int.mul_comm]
    have fin : ∀ n : Int, Fewest.Least L S (Fewest.ab (2 * a - x * y)) n → Q (.int n) H := fun n h => by
      refine k n ?_
      unfold Fewest.St
      rw [hX, hY]
      rcases hLS with ⟨e1, e2, _⟩ | ⟨e1, e2, _⟩
      · rw [e1, e2] at h; exact h
      · rw [e1, e2] at h; exact h.swap
    have hSL : S ≤ L ∧ 0 ≤ S := by omega
    generalize hU : Fewest.ab (2 * a - x * y) = U at bU U0 par fin ⊢
    obtain ⟨AA, hA⟩ : ∃ AA : Int, (U + L * S) / 2 = AA := ⟨_, rfl⟩
    have hA2 : 2 * AA = U + L * S := by rw [LSXY] at hA ⊢; omega
    have bA : Bd 8000 AA := by
      have b1 : Bd 7001 (U + L * S) := bU.add ((bL.mul bS).mono (by decide))
      have b2 : Bd 7001 AA := by unfold Bd at *; omega
      exact b2.mono (by decide)
    rw [show (fun i j : Int => V.int (i / j)) (U + L * S) 2 = V.int AA from congrArg V.int hA]
    refine ⟨_, rfl, _, rfl, _, rfl, _, _, rfl, rfl, cmw mL mS, _, _, rfl, rfl, _, rfl, ?_⟩
    refine ite2 (fun h1 => ?_) (fun h1 => ?_)
    · exact ⟨_, rfl, _, rfl, _, _, rfl, rfl, fin _ (Fewest.least1 hA2 (of_decide_eq_true h1))⟩
    · have h1 : L * S < AA := by have := of_decide_eq_false (Bool.eq_false_iff.mpr h1); omega
      refine ⟨_, rfl, _, rfl, _, rfl, _, _, rfl, rfl, cmw mL mL, _, _, rfl, rfl, _, rfl, ?_⟩
      have LS0 : 0 ≤ L * S := by rw [LSXY]; exact Int.mul_nonneg X0 Y0
      refine ite2 (fun h2 => ?_) (fun h2 => ?_)
      · have h2 := of_decide_eq_true h2
        have L0 : 0 < L := by
          rcases (show L = 0 ∨ 0 < L by omega) with z | z
          · subst z; omega
          · exact z
        refine ⟨_, rfl, _, rfl, AA, L, rfl, L0, bA, mL, _, _, rfl, rfl, .inl ⟨by decide, by decide⟩, _, rfl, _, _, rfl, rfl, _, rfl, _, _, rfl, rfl, fin _ (Fewest.least2 hSL.2 L0 hA2 h1 h2 (Fewest.up_ex L0).1 (Fewest.up_ex L0).2)⟩
      · have h2 : L * L < AA := by have := of_decide_eq_false (Bool.eq_false_iff.mpr h2); omega
        refine ⟨_, rfl, AA, rfl, by omega, bA, fun h hh => ?_⟩
        refine ⟨_, _, rfl, rfl, .inl ⟨by decide, by decide⟩, _, rfl, _, _, rfl, rfl, _, rfl, _, _, rfl, rfl, fin _ (Fewest.least3 hSL.2 hSL.1 hA2 h2 hh)⟩
end
end AW

set_option linter.all false
set_option maxRecDepth 100000
set_option maxHeartbeats 8000000
namespace AW
open PySem PySem.Spec PyProof.Rows L2
section
variable {P : Program} {w : World} {K : PySem.W.Frag} {mg : Str → Option Value} {base : Heap}
def sp_steps (T : Tx K mg) : Sp := fun vs H Q E => ∃ (p : Addr) (x y a : Int), vs = [.ref p] ∧ PlAt T H p x y a ∧ Bd 3000 x ∧ Bd 3000 y ∧ Bd 3000 a ∧ ∀ n : Int, Fewest.St x y a n → Q (.int n) H
theorem ok_steps (T : Tx K mg) : FnOk P w K mg base (L2.CX P w) 4 T.a_steps T.d_steps P_steps (sp_steps T) := by
  have G_check_place : FnOk P w K mg base (L2.CX P w) 3 _ _ _ _ := ok_check_place T
  have G_fewest_steps : FnOk P w K mg base (L2.CX P w) 2 _ _ _ _ := ok_fewest_steps T
  refine T.F_steps.okX sc_steps (fun vs H Q E h => ?_) (fun cdv A outer s H vs Q E hr h => ?_)
  · obtain ⟨p, x, y, a, rfl, _⟩ := h
    rfl
  · obtain ⟨p, x, y, a, rfl, hp, bx, by', ba, k⟩ := h
    refine ⟨_, (pss_cons (ps_expr (pe_call G_check_place (hr.mono (by decide)) (by rfl) T.g_check_place T.F_check_place.kp T.b_check_place .nil passL (pa_cons (pv 0) pa_nil)))
 (pss_one (ps_ret (pe_call G_fewest_steps (hr.mono (by decide)) (by rfl) T.g_fewest_steps T.F_fewest_steps.kp T.b_fewest_steps .nil passL (pa_cons (pv 0) pa_nil))))), ?_⟩
    refine ⟨_, rfl, .ref p, rfl, .inl ⟨p, x, y, a, rfl, hp, ?_⟩⟩
    exact ⟨_, rfl, p, x, y, a, rfl, hp, bx, by', ba, k⟩
/-- distance, of a place and a place behind it -/
def sp_distance (T : Tx K mg) : Sp := fun vs H Q E => ∃ (p q : Addr) (x y a z t c : Int), vs = [.ref p, .ref q] ∧ PlAt T H p x y a ∧ PlAt T H q z t c ∧ Bd 1000 x ∧ Bd 1000 y ∧ Bd 1000 a ∧ Bd 1000 z ∧ Bd 1000 t ∧ Bd 1000 c ∧
  ∀ (n : Int) (H' : Hp), Same H H' → Fewest.St (-x + z) (-y + t) (x * y - a + c + -x * t) n → Q (.int n) H'
theorem ok_distance (T : Tx K mg) : FnOk P w K mg base (L2.CX P w) 7 T.a_distance T.d_distance P_distance (sp_distance T) := by
  have G_check_place : FnOk P w K mg base (L2.CX P w) 3 _ _ _ _ := ok_check_place T
  have G_fewest_steps : FnOk P w K mg base (L2.CX P w) 2 _ _ _ _ := ok_fewest_steps T
  have G_Place_mul : FnOk P w K mg base (L2.CX P w) 6 _ _ _ _ := ok_Place_mul T
  have G_Place_invert : FnOk P w K mg base (L2.CX P w) 6 _ _ _ _ := ok_Place_invert T
  refine T.F_distance.okX sc_distance (fun vs H Q E h => ?_) (fun cdv A outer s H vs Q E hr h => ?_)
  · obtain ⟨p, q, x, y, a, z, t, c, rfl, _⟩ := h
    rfl
  · obtain ⟨p, q, x, y, a, z, t, c, rfl, hp, hq, bx, by', ba, bz, bt, bc, k⟩ := h
    refine ⟨_, (pss_cons (ps_expr (pe_call G_check_place (hr.mono (by decide)) (by rfl) T.g_check_place T.F_check_place.kp T.b_check_place .nil passL (pa_cons (pv 0) pa_nil)))
 (pss_cons (ps_expr (pe_call G_check_place (hr.mono (by decide)) (by rfl) T.g_check_place T.F_check_place.kp T.b_check_place .nil passL (pa_cons (pv 1) pa_nil)))
 (pss_one (ps_ret (pe_call G_fewest_steps (hr.mono (by decide)) (by rfl) T.g_fewest_steps T.F_fewest_steps.kp T.b_fewest_steps .nil passL (pa_cons (pe_op (op_ownO T.O_Place_Mult G_Place_mul (hr.mono (by decide)) T.b_Place_mul passL) (pe_un (un_invO T.m_Place_invert T.i_Place_invert G_Place_invert (hr.mono (by decide)) T.b_Place_invert passL) (pv 0)) (pv 1)) pa_nil)))))), ?_⟩
    refine ⟨_, rfl, .ref p, rfl, .inl ⟨p, x, y, a, rfl, hp, ?_⟩⟩
    refine ⟨_, rfl, .ref q, rfl, .inl ⟨q, z, t, c, rfl, hq, ?_⟩⟩
    obtain ⟨dp, ep⟩ := id hp
    refine ⟨_, rfl, p, dp, _, rfl, ep, p, x, y, a, rfl, hp, bx.mono (by decide), by'.mono (by decide), fun r H1 s1 n1 p1 => ?_⟩
    obtain ⟨dr, er⟩ := id p1
    refine ⟨_, rfl, r, dr, _, _, rfl, er, (hq.mono s1).ty, rt_of T (.inl rfl), r, .ref q, _, _, _, rfl, p1, .inl ⟨q, z, t, c, rfl, hq.mono s1, bx.neg.mono (by decide), bt.mono (by decide), fun r2 H2 s2 n2 p2 => ?_⟩⟩
    have m1 : Bd 2001 (x * y - a) := (bx.mul by').sub (ba.mono (by decide))
    have m2 : Bd 2003 (x * y - a + c + -x * t) := ((m1.add (bc.mono (by decide))).mono (show 2002 ≤ 2002 by decide)).add ((bx.neg.mul bt).mono (by decide))
    exact ⟨r2, _, _, _, rfl, p2, (bx.neg.add bz).mono (by decide), (by'.neg.add bt).mono (by decide), m2.mono (by decide), fun n hn => k n H2 (s1.trans s2) hn⟩
end
end AW

set_option linter.all false
set_option maxRecDepth 100000
set_option maxHeartbeats 4000000
namespace AW
open PySem PySem.Spec PyProof.Rows L2
/-! ### the pen -/
abbrev kC : Key := Sum.inr "cells"
abbrev kS : Key := Sum.inr "at"
abbrev kR : Key := Sum.inr "left"
theorem kCS : ¬ (kC = kS) := by decide +kernel
theorem kCR : ¬ (kC = kR) := by decide +kernel
theorem kSR : ¬ (kS = kR) := by decide +kernel
theorem kSC : ¬ (kS = kC) := by decide +kernel
theorem kRC : ¬ (kR = kC) := by decide +kernel
theorem kRS : ¬ (kR = kS) := by decide +kernel
def penD (c : Addr) (s r : Int) : List (Key × V) := [(kC, .ref c), (kS, .int s), (kR, .int r)]
theorem pen_c (c : Addr) (s r : Int) : valV (penD c s r) kC = some (.ref c) := valV_pos rfl
theorem pen_s (c : Addr) (s r : Int) : valV (penD c s r) kS = some (.int s) := (valV_neg kCS).trans (valV_pos rfl)
theorem pen_r (c : Addr) (s r : Int) : valV (penD c s r) kR = some (.int r) := (valV_neg kCR).trans ((valV_neg kSR).trans (valV_pos rfl))
theorem pen_ps (c : Addr) (s r z : Int) : putK (penD c s r) kS (.int z) = penD c z r := by
  unfold putK
  rw [if_pos (by rw [valV_any, pen_s]; rfl)]
  show [if kC = kS then (kC, V.int z) else (kC, V.ref c), if kS = kS then (kS, V.int z) else (kS, V.int s), if kR = kS then (kR, V.int z) else (kR, V.int r)] = penD c z r
  rw [if_neg kCS, if_pos rfl, if_neg kRS]
  rfl
theorem pen_pr (c : Addr) (s r z : Int) : putK (penD c s r) kR (.int z) = penD c s z := by
  unfold putK
  rw [if_pos (by rw [valV_any, pen_r]; rfl)]
  show [if kC = kR then (kC, V.int z) else (kC, V.ref c), if kS = kR then (kS, V.int z) else (kS, V.int s), if kR = kR then (kR, V.int z) else (kR, V.int r)] = penD c s z
  rw [if_neg kCR, if_neg kSR, if_pos rfl]
  rfl
theorem pen_mk (c : Addr) (s r : Int) : mergeK [] [(kC, .ref c), (kS, .int s), (kR, .int r)] = penD c s r := by
  unfold mergeK
  show putK (putK (putK [] kC (.ref c)) kS (.int s)) kR (.int r) = penD c s r
  rw [putK_new _ valV_nil]
  rw [putK_new _ (show valV ([] ++ [(kC, V.ref c)]) kS = none from valV_neg kCS)]
  rw [putK_new _ (show valV ([] ++ [(kC, V.ref c)] ++ [(kS, V.int s)]) kR = none from (valV_neg kCR).trans (valV_neg kSR))]
  rfl
/-- the pen at p: its cells, at most 63 ints; no more than B stops so far -/
structure Pen (H : Hp) (p : Addr) (B : Int) : Prop where
  at_ : ∃ (c : Addr) (ns : List Int) (s r : Int), H p = some (.dK (penD c s r)) ∧ H c = some (.lst (ns.map V.int)) ∧ ns.length ≤ 63 ∧ 0 ≤ s ∧ s ≤ B
theorem dg_c {H : Hp} {p c : Addr} {s r : Int} (e : H p = some (.dK (penD c s r))) : DGet H p (.str "cells") (some (.ref c)) := by
  have h := DGet.k (k := kC) e
  rw [pen_c] at h
  exact h
theorem dg_s {H : Hp} {p c : Addr} {s r : Int} (e : H p = some (.dK (penD c s r))) : DGet H p (.str "at") (some (.int s)) := by
  have h := DGet.k (k := kS) e
  rw [pen_s] at h
  exact h
theorem dg_r {H : Hp} {p c : Addr} {s r : Int} (e : H p = some (.dK (penD c s r))) : DGet H p (.str "left") (some (.int r)) := by
  have h := DGet.k (k := kR) e
  rw [pen_r] at h
  exact h
theorem dp_s {H : Hp} {p c : Addr} {s r z : Int} (e : H p = some (.dK (penD c s r))) : DPut H p (.str "at") (.int z) (upd H p (.dK (penD c z r))) := by
  have h := DPut.k (k := kS) (v := .int z) e (by show 3 < sizeLine; decide)
  rw [pen_ps] at h
  exact h
theorem dp_r {H : Hp} {p c : Addr} {s r z : Int} (e : H p = some (.dK (penD c s r))) : DPut H p (.str "left") (.int z) (upd H p (.dK (penD c s z))) := by
  have h := DPut.k (k := kR) (v := .int z) e (by show 3 < sizeLine; decide)
  rw [pen_pr] at h
  exact h
/-- all but the pen stays -/
structure But (p : Addr) (H H' : Hp) : Prop where
  st : ∀ b o, b ≠ p → H b = some o → H' b = some o
  cl : ∀ c s r, H p = some (.dK (penD c s r)) → ∃ s' r', H' p = some (.dK (penD c s' r'))
theorem But.refl {p : Addr} (H : Hp) : But p H H := ⟨fun _ _ _ h => h, fun _ s r h => ⟨s, r, h⟩⟩
theorem But.trans {p : Addr} {H H1 H2 : Hp} (a : But p H H1) (b : But p H1 H2) : But p H H2 :=
  ⟨fun c o n h => b.st c o n (a.st c o n h), fun c s r h => by
    obtain ⟨s1, r1, h1⟩ := a.cl c s r h
    exact b.cl c s1 r1 h1⟩
theorem But.of {p : Addr} {H H' : Hp} (s : Same H H') : But p H H' := ⟨fun b o _ h => s b o h, fun c z r h => ⟨z, r, s _ _ h⟩⟩
theorem penD_inj {c c' : Addr} {s r s' r' : Int} (h : penD c s r = penD c' s' r') : c = c' := by
  injection h with h1 _
  injection h1 with _ h2
  injection h2
theorem But.upd {p c : Addr} {z r z' r' : Int} {H H' : Hp} (s : But p H H') (e : H' p = some (.dK (penD c z r))) : But p H (upd H' p (.dK (penD c z' r'))) :=
  ⟨fun b u n h => by rw [upd_ne n]; exact s.st b u n h, fun c2 s2 r2 h => by
    obtain ⟨s3, r3, h3⟩ := s.cl c2 s2 r2 h
    rw [e] at h3
    injection h3 with h3
    injection h3 with h3
    rw [penD_inj h3] at *
    exact ⟨z', r', upd_same⟩⟩
theorem But.new {p q : Addr} {H H' : Hp} {o : HO} (s : But p H H') (h : H' q = none) : But p H (L2.upd H' q o) :=
  ⟨fun b u n e => by
    have e' := s.st b u n e
    rw [upd_ne (ne_of_none e' h)]
    exact e', fun c z r e => by
    obtain ⟨z1, r1, e1⟩ := s.cl c z r e
    exact ⟨z1, r1, by rw [upd_ne (ne_of_none e1 h)]; exact e1⟩⟩
theorem Pen.mono {H H' : Hp} {p : Addr} {B B' : Int} (h : Pen H p B) (l : B ≤ B') (s : Same H H') : Pen H' p B' := by
  obtain ⟨c, ns, z, r, e1, e2, h1, h2, h3⟩ := h.at_
  exact ⟨⟨c, ns, z, r, s _ _ e1, s _ _ e2, h1, h2, Int.le_trans h3 l⟩⟩
theorem Pen.le {H : Hp} {p : Addr} {B B' : Int} (h : Pen H p B) (l : B ≤ B') : Pen H p B' := h.mono l (Same.refl H)
theorem fmod_in {a b : Int} (h : 0 < b) : 0 ≤ a.fmod b ∧ a.fmod b < b := ⟨Int.fmod_nonneg_of_pos a h, Int.fmod_lt_of_pos a h⟩
section
variable {P : Program} {w : World} {K : PySem.W.Frag} {mg : Str → Option Value} {base : Heap}
def sp_l_pen (T : Tx K mg) : Sp := fun vs H Q E => ∃ (a : Addr) (ns : List Int), vs = [.ref a] ∧ SqL K H a (ns.map V.int) ∧ ns.length ≤ 63 ∧ ∀ p H', Same H H' → H p = none → Pen H' p 0 → Q (.ref p) H'
theorem ok_l_pen (T : Tx K mg) : FnOk P w K mg base (L2.CX P w) 1 T.a_l_pen T.d_l_pen P_l_pen (sp_l_pen T) := by
  refine T.F_l_pen.okX sc_l_pen (fun vs H Q E h => ?_) (fun cdv A outer s H vs Q E hr h => ?_)
  · obtain ⟨a, ns, rfl, _⟩ := h
    rfl
  · obtain ⟨a, ns, rfl, hS, hlen, k⟩ := h
    refine ⟨_, pss_one (ps_ret (pe_disp (pps_cons pe_str (pe_callTy call_list_of rfl T.n_list (by decide +kernel) (pa_cons (pe_slice sl_list (pv 0) po_none (po_some pe_int)) pa_nil))
      (pps_cons pe_str pe_int (pps_cons pe_str pe_int pps_nil))) (by rfl) (by rfl) (fun z => by cases z) (by decide))), ?_⟩
    refine fun p np => ?_
    have s1 : Same H (upd H p (.dK [])) := Same.laid np
    refine ⟨_, rfl, _, rfl, a, _, rfl, s1.seq hS, fun q nq => ⟨q, _, rfl, .inl (.of upd_same), fun l nl => ?_⟩⟩
    have npq : p ≠ q := ne_of_none upd_same nq
    have nql : q ≠ l := ne_of_none upd_same nl
    have npl : p ≠ l := ne_of_none (by rw [upd_ne npq]; exact upd_same) nl
    refine ⟨by rw [upd_ne npl, upd_ne npq, upd_same], [(kC, .ref l), (kS, .int 0), (kR, .int 0)], rfl, (by show 3 ≤ 15; decide), ?_⟩
    have hcut : cutV (ns.map V.int) none (some 63) = ns.map V.int := by
      unfold cutV
      have e1 : HT.sIx (ns.map V.int).length 0 none = 0 := rfl
      have e2 : (ns.map V.int).length ≤ 63 := by rw [List.length_map]; exact hlen
      rw [e1]
      show ((ns.map V.int).drop 0).take _ = _
      rw [List.drop_zero, List.take_of_length_le]
      have e3 : HT.sIx (ns.map V.int).length (ns.map V.int).length (some 63) = (ns.map V.int).length := by
        simp [HT.sIx]
        omega
      rw [e3]
      omega
    have sF : Same H (upd (upd (upd (upd H p (.dK [])) q (.lst (cutV (ns.map V.int) none (some 63)))) l (.lst (cutV (ns.map V.int) none (some 63)))) p (.dK (mergeK [] [(kC, .ref l), (kS, .int 0), (kR, .int 0)]))) := fun b o e => by
      have nb : b ≠ p := ne_of_none e np
      have e1 : upd H p (.dK []) b = some o := by rw [upd_ne nb]; exact e
      have nq' : b ≠ q := ne_of_none e1 nq
      have e2 : upd (upd H p (.dK [])) q (.lst (cutV (ns.map V.int) none (some 63))) b = some o := by rw [upd_ne nq']; exact e1
      rw [upd_ne nb, upd_ne (ne_of_none e2 nl)]
      exact e2
    refine k p _ sF np ⟨l, ns, 0, 0, ?_, ?_, hlen, Int.le_refl _, Int.le_refl _⟩
    · rw [pen_mk]; exact upd_same
    · rw [upd_ne npl.symm, upd_same, hcut]
end
end AW

set_option linter.all false
set_option maxRecDepth 100000
set_option maxHeartbeats 8000000
namespace AW
open PySem PySem.Spec PyProof.Rows L2
section
variable {P : Program} {w : World} {K : PySem.W.Frag} {mg : Str → Option Value} {base : Heap}
theorem dp_ints {K : PySem.W.Frag} {H : Hp} : ∀ ms : List Int, DpAll K H (ms.map V.int) (ms.map PyData.int)
  | [] => .nil
  | m :: r => .cons (.int m) (dp_ints r)
theorem sh_ints (ms : List Int) : SeqAt.shaped (.list (ms.map PyData.int)) = true := PySem.W.ke_shaped_ints ms
/-- a drawn number, the pen a stop further at most -/
def Drawn (H : Hp) (Q : VK) (p : Addr) (B : Int) (ok : Int → Prop) : Prop := ∀ (d : Int) (H' : Hp), ok d → But p H H' → Pen H' p B → Q (.int d) H'
def sp_l_draw (T : Tx K mg) : Sp := fun vs H Q E => ∃ (p : Addr) (n B : Int), vs = [.ref p, .int n] ∧ 0 < n ∧ n < 1073741824 ∧ Pen H p B ∧ B ≤ 1000000 ∧ Drawn H Q p (B + 1) fun d => 0 ≤ d ∧ d < n
theorem ok_l_draw (T : Tx K mg) : FnOk P w K mg base (L2.CX P w) 1 T.a_l_draw T.d_l_draw P_l_draw (sp_l_draw T) := by
  refine T.F_l_draw.okX sc_l_draw (fun vs H Q E h => ?_) (fun cdv A outer s H vs Q E hr h => ?_)
  · obtain ⟨p, n, B, rfl, _⟩ := h
    rfl
  · obtain ⟨p, n, B, rfl, h0, h1, hp, hB, k⟩ := h
    have hu := hu_of hr
    obtain ⟨c, ns, st, rs, e1, e2, hl, hs0, hsB⟩ := hp.at_
    have npc : p ≠ c := ne_of e1 e2 (by intro z; cases z)
    refine ⟨_, (pss_cons (ps_if (pt_cmpR op_ge (pe_dget hu (pv 0) pe_str (fun _ _ => rfl)) (pv 1) (nomark _))
 (pss_cons (ps_set (i := 2) sc_l_draw.nd rfl (.inl rfl) (pe_op op_modN (pe_callTy call_int1 (by rfl) T.n_int (by decide +kernel) (pa_cons (pe_dget hu (pv 0) pe_str (fun _ _ => rfl)) pa_nil)) (pv 1)))
 (pss_cons (ps_dput hu (pv 0) pe_str (pe_op op_fdivN (pe_dget hu (pv 0) pe_str (fun _ _ => rfl)) (pv 1)) rfl)
 (pss_one (ps_ret (pv 2)))))
 pss_nil)
 (pss_cons (ps_set (i := 3) sc_l_draw.nd rfl (.inl rfl) (pe_dget hu (pv 0) pe_str (fun _ _ => rfl)))
 (pss_cons (ps_dput hu (pv 0) pe_str (pe_op op_add (pv 3) pe_int) rfl)
 (pss_cons (ps_set (i := 4) sc_l_draw.nd rfl (.inl rfl) (pe_op op_add (pe_op op_mul pe_int (pv 3)) pe_int))
 (pss_cons (ps_if (pt_cmpR (op_neD hr.units) (pe_dget hu (pv 0) pe_str (fun _ _ => rfl)) (pe_lst pa_nil) (nomark _))
 (pss_one (ps_set (i := 4) sc_l_draw.nd rfl (.inl rfl) (pe_ix ix_list (pe_dget hu (pv 0) pe_str (fun _ _ => rfl)) (pe_op op_modN (pe_callTy call_int1 (by rfl) T.n_int (by decide +kernel) (pa_cons (pv 3) pa_nil)) (pe_callB call_len_seq (by rfl) T.n_len (by decide +kernel) (pa_cons (pe_dget hu (pv 0) pe_str (fun _ _ => rfl)) pa_nil))) (fun _ _ => rfl))))
 pss_nil)
 (pss_cons (ps_if (PW.pt (pw_and (pt_cmpR op_lt (pv 3) (pe_callB call_len_seq (by rfl) T.n_len (by decide +kernel) (pa_cons (pe_dget hu (pv 0) pe_str (fun _ _ => rfl)) pa_nil)) (nomark _)) (pw_and1 (pt_cmpR op_ge (pv 4) (pe_op op_pow pe_int pe_int) (nomark _)))))
 (pss_cons (ps_dput hu (pv 0) pe_str (pe_op op_fdivN (pe_op op_sub (pv 4) (pe_op op_pow pe_int pe_int)) (pv 1)) rfl)
 (pss_one (ps_ret (pe_op op_modN (pe_callTy call_int1 (by rfl) T.n_int (by decide +kernel) (pa_cons (pe_op op_sub (pv 4) (pe_op op_pow pe_int pe_int)) pa_nil)) (pv 1)))))
 pss_nil)
 (pss_cons (ps_set (i := 5) sc_l_draw.nd rfl (.inl rfl) (pe_op op_add (pe_op op_mul (pe_op op_modN (pe_callTy call_int1 (by rfl) T.n_int (by decide +kernel) (pa_cons (pv 4) pa_nil)) pe_int) pe_int) (pe_op op_mul (pe_op op_mul pe_int (pv 3)) (pv 3))))
 (pss_cons (ps_set (i := 5) sc_l_draw.nd rfl (.inl rfl) (pe_op op_modN (pe_callTy call_int1 (by rfl) T.n_int (by decide +kernel) (pa_cons (pe_op op_add (pe_op op_add (pv 5) (pe_op op_mul pe_int (pv 3))) pe_int) pa_nil)) pe_int))
 (pss_cons (ps_set (i := 5) sc_l_draw.nd rfl (.inl rfl) (pe_op op_modN (pe_callTy call_int1 (by rfl) T.n_int (by decide +kernel) (pa_cons (pe_op op_add (pe_op op_mul (pv 5) (pe_op op_add (pv 5) pe_int)) (pe_op op_mul pe_int (pv 3))) pa_nil)) pe_int))
 (pss_one (ps_ret (pe_op op_modN (pe_callTy call_int1 (by rfl) T.n_int (by decide +kernel) (pa_cons (pe_op op_fdivN (pe_op op_modN (pe_callTy call_int1 (by rfl) T.n_int (by decide +kernel) (pa_cons (pe_op op_add (pe_op op_mul (pv 5) (pv 5)) (pe_op op_mul pe_int (pv 5))) pa_nil)) pe_int) pe_int) pa_nil)) (pv 1))))))))))))), ?_⟩
    have dn : CDivN rs n := ⟨by omega, by omega⟩
    refine ⟨_, rfl, p, _, rfl, dg_r e1, _, rfl, _, _, rfl, rfl, _, rfl, ?_⟩
    refine ite2 (fun _ => ?_) (fun _ => ?_)
    · refine ⟨_, rfl, p, _, rfl, dg_r e1, .inl ⟨_, rfl, _, rfl, _, _, rfl, rfl, (by omega), ?_⟩⟩
      refine ⟨_, rfl, p, _, rfl, dg_r e1, _, rfl, _, _, rfl, rfl, dn, _, rfl, p, _, rfl, dp_r e1, ?_⟩
      refine ⟨_, rfl, k _ _ (fmod_in h0) (But.upd (But.refl H) e1) ⟨c, ns, st, _, upd_same, by rw [upd_ne npc.symm]; exact e2, hl, hs0, by omega⟩⟩
    · refine ⟨_, rfl, p, _, rfl, dg_s e1, ?_⟩
      refine ⟨_, rfl, _, _, rfl, rfl, _, rfl, p, _, rfl, dp_s e1, ?_⟩
      refine ⟨_, rfl, _, _, rfl, rfl, .inl ⟨by decide, by decide⟩, _, _, rfl, rfl, ?_⟩
      have hp1 : upd H p (.dK (penD c (st + 1) rs)) p = some (.dK (penD c (st + 1) rs)) := upd_same
      have hc1 : upd H p (.dK (penD c (st + 1) rs)) c = some (.lst (ns.map V.int)) := by rw [upd_ne npc.symm]; exact e2
      have b1 : But p H (upd H p (.dK (penD c (st + 1) rs))) := But.upd (But.refl H) e1
      generalize upd H p (.dK (penD c (st + 1) rs)) = H1 at hp1 hc1 b1 ⊢
      refine ⟨_, rfl, p, _, rfl, dg_c hp1, (by show 0 ≤ sizeLine; decide), fun e0 ne0 => ?_⟩
      have se0 : Same H1 (upd H1 e0 (.lst [])) := Same.laid ne0
      have hp2 := se0 _ _ hp1
      have hc2 := se0 _ _ hc1
      have b2 : But p H (upd H1 e0 (.lst [])) := b1.new ne0
      have he2 : upd H1 e0 (.lst []) e0 = some (.lst []) := upd_same
      generalize upd H1 e0 (.lst []) = H2 at hp2 hc2 b2 he2 ⊢
      refine ⟨.list (ns.map PyData.int), .list [], .lst (SqL.of hc2) (dp_ints ns), .lst (SqL.of he2) .nil, sh_ints ns, rfl, _, rfl, ?_⟩
      have dz : ∀ z : Int, CDivN z n := fun z => ⟨by omega, by omega⟩
      have n0 : n ≠ 0 := by omega
      have cp : CPow 10 18 := ⟨by decide, by decide, by decide⟩
      have nzA : (2147482417 : Int) ≠ 0 := by decide
      have nzB : (2147482481 : Int) ≠ 0 := by decide
      have nzC : (2147482507 : Int) ≠ 0 := by decide
      have nzD : (2147482577 : Int) ≠ 0 := by decide
      have bB : ∀ x : Int, -(2 ^ 64) < x.fmod 2147482481 ∧ x.fmod 2147482481 < 2 ^ 64 := fun x => by have := fmod_in (a := x) (b := 2147482481) (by decide); omega
      have bC : ∀ x : Int, -(2 ^ 64) < x.fmod 2147482507 ∧ x.fmod 2147482507 < 2 ^ 64 := fun x => by have := fmod_in (a := x) (b := 2147482507) (by decide); omega
      have kk : ∀ (z : Int) H', But p H H' → Pen H' p (B + 1) → Q (.int (z.fmod n)) H' := fun z H' b q => k _ H' (fmod_in h0) b q
      have P2 : ∀ H', (∃ r, H' p = some (.dK (penD c (st + 1) r))) → H' c = some (.lst (ns.map V.int)) → Pen H' p (B + 1) := fun H' ⟨r, e⟩ e' => ⟨c, ns, st + 1, r, e, e', hl, by omega, by omega⟩
      refine ite2 (fun hne => ?_) (fun _ => ?_)
      focus
        have hpos : 0 < ns.length := by
          cases ns with
          | nil => exact absurd hne (by decide)
          | cons a r => exact Nat.succ_pos _
        have hm := fmod_in (a := st) (b := (ns.length : Int)) (by omega)
        have hi : ∃ z, atI (ns.map V.int) (st.fmod ((ns.map V.int).length : Int)) = some (.int z) := by
          rw [List.length_map]
          obtain ⟨j, hj⟩ := Int.eq_ofNat_of_zero_le hm.1
          have hj2 : j < ns.length := by omega
          refine ⟨ns[j], ?_⟩
          rw [hj, atI_nat (by rw [List.getElem?_map, List.getElem?_eq_getElem hj2]; rfl)]
        obtain ⟨z, hz⟩ := hi
        refine ⟨_, rfl, p, _, rfl, dg_c hp2, _, rfl, .inl ⟨_, rfl, _, rfl, p, _, rfl, dg_c hp2, c, _, rfl, .inl (SqL.of hc2), _, _, rfl, rfl, (by rw [List.length_map]; omega), c, _, _, _, rfl, rfl, SqL.of hc2, hz, ?_⟩⟩
        clear hz hm hne hpos
      all_goals
        refine ⟨_, rfl, _, rfl, p, _, rfl, dg_c hp2, c, _, rfl, .inl (SqL.of hc2), _, _, rfl, rfl, _, rfl, ?_⟩
        refine ite2 (fun _ => ?_) (fun _ => ?_)
        focus
          refine ⟨_, rfl, _, _, rfl, rfl, cp, _, _, rfl, rfl, _, rfl, ?_⟩
          refine ite2 (fun _ => ?_) (fun _ => ?_)
          focus
            refine ⟨_, rfl, _, _, rfl, rfl, cp, _, _, rfl, rfl, _, rfl, _, _, rfl, rfl, dz _, _, rfl, p, _, rfl, dp_r hp2, ?_⟩
            refine ⟨_, rfl, _, _, rfl, rfl, cp, _, _, rfl, rfl, .inl ⟨_, rfl, _, rfl, _, _, rfl, rfl, n0, ?_⟩⟩
            exact kk _ _ (b2.upd hp2) (P2 _ ⟨_, upd_same⟩ (by rw [upd_ne npc.symm]; exact hc2))
        rotate_left
        focus
          refine iteF ?_
        all_goals
          refine ⟨_, rfl, .inl ⟨_, rfl, _, _, rfl, rfl, nzA, _, _, rfl, rfl, .inr ⟨by decide, by decide⟩, _, rfl, _, _, rfl, rfl, .inl ⟨by decide, by decide⟩, _, rfl, _, _, rfl, rfl, .inr ⟨by omega, by omega⟩, _, _, rfl, rfl, ?_⟩⟩
          refine ⟨_, rfl, _, rfl, _, _, rfl, rfl, .inl ⟨by decide, by decide⟩, _, _, rfl, rfl, _, _, rfl, rfl, .inl ⟨_, rfl, _, _, rfl, rfl, nzB, ?_⟩⟩
          refine ⟨_, rfl, _, rfl, _, _, rfl, rfl, _, _, rfl, rfl, .inl (bB _), _, rfl, _, _, rfl, rfl, .inl ⟨by decide, by decide⟩, _, _, rfl, rfl, .inl ⟨_, rfl, _, _, rfl, rfl, nzC, ?_⟩⟩
          refine ⟨_, rfl, _, rfl, _, _, rfl, rfl, .inl (bC _), _, rfl, _, _, rfl, rfl, .inl ⟨by decide, by decide⟩, _, _, rfl, rfl, .inl ⟨_, rfl, _, _, rfl, rfl, nzD, ?_⟩⟩
          refine ⟨_, _, rfl, rfl, ⟨by decide, by decide⟩, .inl ⟨_, rfl, _, rfl, _, _, rfl, rfl, n0, ?_⟩⟩
          exact kk _ _ b2 (P2 _ ⟨_, hp2⟩ hc2)
end
end AW

set_option linter.all false
set_option maxRecDepth 100000
set_option maxHeartbeats 8000000
namespace AW
open PySem PySem.Spec PyProof.Rows L2
section
variable {P : Program} {w : World} {K : PySem.W.Frag} {mg : Str → Option Value} {base : Heap}
def sp_l_pick (T : Tx K mg) : Sp := fun vs H Q E => ∃ (p : Addr) (it : V) (B : Int), vs = [.ref p, it] ∧ Pen H p B ∧ B ≤ 1000000 ∧
  ((∃ l xs, it = .ref l ∧ H l = some (.lst xs) ∧ 0 < xs.length ∧ xs.length ≤ 1000 ∧ ∀ v H', v ∈ xs → But p H H' → Pen H' p (B + 1) → Q v H') ∨
   (∃ z : Str, it = .str z ∧ 0 < z.length ∧ z.length ≤ 1000 ∧ ∀ c H', c ∈ z.cps.toList → But p H H' → Pen H' p (B + 1) → Q (.str ⟨#[c]⟩) H'))
theorem str_len (z : Str) : z.cps.toList.length = z.length := by
  show z.cps.toList.length = z.cps.size
  simp
theorem ok_l_pick (T : Tx K mg) : FnOk P w K mg base (L2.CX P w) 2 T.a_l_pick T.d_l_pick P_l_pick (sp_l_pick T) := by
  have G_l_draw : FnOk P w K mg base (L2.CX P w) 1 _ _ _ _ := ok_l_draw T
  refine T.F_l_pick.okX sc_l_pick (fun vs H Q E h => ?_) (fun cdv A outer s H vs Q E hr h => ?_)
  · obtain ⟨p, it, B, rfl, _⟩ := h
    rfl
  · obtain ⟨p, it, B, rfl, hp, hB, k⟩ := h
    refine ⟨_, (pss_one (ps_ret (pe_ix ix_seq (pv 1) (pe_call G_l_draw (hr.mono (by decide)) (by rfl) T.g_l_draw T.F_l_draw.kp T.b_l_draw .nil passL (pa_cons (pv 0) (pa_cons (pe_callB call_len (by rfl) T.n_len (by decide +kernel) (pa_cons (pv 1) pa_nil)) pa_nil))) (fun _ _ => rfl)))), ?_⟩
    have sl : (1000 : Nat) ≤ sizeLine := by decide
    rcases k with ⟨l, xs, rfl, hl, h0, h1, k⟩ | ⟨z, rfl, h0, h1, k⟩
    · refine ⟨_, rfl, _, rfl, _, rfl, _, xs.length, rfl, .inl ⟨xs, SqL.of hl, rfl⟩, ?_⟩
      refine ⟨p, _, B, rfl, by omega, by omega, hp, hB, fun d H' hd b q => ?_⟩
      obtain ⟨j, rfl⟩ := Int.eq_ofNat_of_zero_le hd.1
      have hj : j < xs.length := by omega
      have hn : l ≠ p := by
        obtain ⟨c, ns, st, r, e1, _⟩ := hp.at_
        exact ne_of hl e1 (by intro z; cases z)
      exact .inl ⟨l, xs, _, xs[j], rfl, rfl, SqL.of (b.st _ _ hn hl), atI_nat (List.getElem?_eq_getElem hj), k _ _ (List.getElem_mem hj) b q⟩
    · refine ⟨_, rfl, _, rfl, _, rfl, _, z.length, rfl, ⟨by omega, rfl⟩, ?_⟩
      refine ⟨p, _, B, rfl, by omega, by omega, hp, hB, fun d H' hd b q => ?_⟩
      obtain ⟨j, rfl⟩ := Int.eq_ofNat_of_zero_le hd.1
      have hj : j < z.cps.toList.length := by rw [str_len]; omega
      exact .inr (.inr ⟨z, _, z.cps.toList[j], rfl, rfl, by omega, atI_nat (List.getElem?_eq_getElem hj), k _ _ (List.getElem_mem hj) b q⟩)
theorem But.free {p : Addr} {H H' : Hp} (b : But p H H') {r : Addr} (h : H' r = none) (hp : H' p ≠ none) : H r = none := by
  cases e : H r with
  | none => rfl
  | some o =>
    have n : r ≠ p := fun z => hp (by rw [← z]; exact h)
    rw [b.st r o n e] at h
    cases h
theorem Pen.some {H : Hp} {p : Addr} {B : Int} (h : Pen H p B) : H p ≠ none := by
  obtain ⟨c, ns, st, r, e1, _⟩ := h.at_
  rw [e1]
  exact fun z => nomatch z
def sp_l_great (T : Tx K mg) : Sp := fun vs H Q E => ∃ (p : Addr) (n B : Int), vs = [.ref p, .int n] ∧ 7 ≤ n ∧ n < 104 ∧ Pen H p B ∧ B ≤ 900000 ∧ Drawn H Q p (B + 16) fun d => 0 ≤ d ∧ Bd 400 d
theorem ok_l_great (T : Tx K mg) : FnOk P w K mg base (L2.CX P w) 2 T.a_l_great T.d_l_great P_l_great (sp_l_great T) := by
  have G_l_draw : FnOk P w K mg base (L2.CX P w) 1 _ _ _ _ := ok_l_draw T
  refine T.F_l_great.okX sc_l_great (fun vs H Q E h => ?_) (fun cdv A outer s H vs Q E hr h => ?_)
  · obtain ⟨p, n, B, rfl, _⟩ := h
    rfl
  · obtain ⟨p, n, B, rfl, h7, h1, hp, hB, k⟩ := h
    refine ⟨_, (pss_cons (ps_set (i := 2) sc_l_great.nd rfl (.inl rfl) pe_int)
 (pss_cons (ps_for (passes_of rfl) rfl (pi_range1 (by rfl) T.n_range (pa_cons (pe_op op_add pe_int (pe_call G_l_draw (hr.mono (by decide)) (by rfl) T.g_l_draw T.F_l_draw.kp T.b_l_draw .nil passL (pa_cons (pv 0) (pa_cons (pe_op op_fdivN (pv 1) pe_int) pa_nil)))) pa_nil)) (pg_name (i := 3) sc_l_great.nd rfl (.inl rfl))
 (pss_one (ps_set (i := 2) sc_l_great.nd rfl (.inl rfl) (pe_op op_add (pe_op op_mul (pv 2) (pe_op op_pow pe_int pe_int)) (pe_call G_l_draw (hr.mono (by decide)) (by rfl) T.g_l_draw T.F_l_draw.kp T.b_l_draw .nil passL (pa_cons (pv 0) (pa_cons (pe_op op_pow pe_int pe_int) pa_nil)))))))
 (pss_one (ps_ret (pv 2))))), ?_⟩
    have c7 : CPow 10 7 := ⟨by decide, by decide, by decide⟩
    have e7 : (10 : Int) ^ (7 : Int).toNat = 10000000 := by decide
    have s7 : -(2 ^ 64) < (10 : Int) ^ (7 : Int).toNat ∧ (10 : Int) ^ (7 : Int).toNat < 2 ^ 64 := by decide
    have q0 : 1 ≤ n.fdiv 7 ∧ n.fdiv 7 ≤ 14 := by rw [Int.fdiv_eq_ediv_of_nonneg _ (by decide)]; omega
    refine ⟨_, rfl, _, rfl, _, _, rfl, rfl, ⟨by decide, by decide⟩, p, n.fdiv 7, B, rfl, by omega, by omega, hp, by omega, fun d H1 hd b1 q1 => ?_⟩
    refine ⟨_, _, rfl, rfl, _, rfl, by omega, by omega, for_range (n := (1 + d).toNat) (fun i σ G' => (∃ (f : Int) (v : Option V), σ = [some (.ref p), some (.int n), some (.int f), v] ∧ 0 ≤ f ∧ f + 1 ≤ 16777216 ^ i) ∧ But p H G' ∧ Pen G' p (B + 1 + i)) ⟨⟨0, none, rfl, by decide, by decide⟩, b1, q1.mono (by omega) (Same.refl _)⟩ ?_ ?_⟩
    · rintro i σ G' hi ⟨⟨f, v, rfl, f0, f1⟩, b, q⟩
      refine ⟨_, rfl, _, _, rfl, rfl, c7, _, _, rfl, rfl, .inr s7, _, rfl, _, _, rfl, rfl, c7, p, _, _, rfl, by rw [e7]; decide, by rw [e7]; decide, q, by omega, fun d2 H2 hd2 b2 q2 => ?_⟩
      rw [e7] at hd2 ⊢
      refine ⟨_, _, rfl, rfl, ⟨_, _, rfl, ?_, ?_⟩, b.trans b2, q2.le (by omega)⟩
      · have := hd2.1
        omega
      · have := hd2.2
        have e1 : (f + 1) * 16777216 ≤ (16777216 : Int) ^ i * 16777216 := Int.mul_le_mul_of_nonneg_right f1 (by decide)
        rw [Int.pow_succ]
        omega
    · rintro σ G' ⟨⟨f, v, rfl, f0, f1⟩, b, q⟩
      refine ⟨_, rfl, k f G' ⟨f0, ?_⟩ b (q.le (by omega))⟩
      have l : (1 + d).toNat ≤ 14 := by have := hd.2; omega
      have e1 : (16777216 : Int) ^ (1 + d).toNat ≤ 16777216 ^ 14 := by
        have z := Int.ofNat_le.mpr (Nat.pow_le_pow_right (show 0 < 16777216 by decide) l)
        rw [Int.natCast_pow, Int.natCast_pow] at z
        exact z
      have e2 : (16777216 : Int) ^ 14 < 2 ^ 400 := by decide +kernel
      have e3 : f < (2 : Int) ^ 400 := by omega
      show f.natAbs < 2 ^ 400
      have e4 : ((f.natAbs : Nat) : Int) < ((2 ^ 400 : Nat) : Int) := by
        rw [show ((2 ^ 400 : Nat) : Int) = (2 : Int) ^ 400 by decide +kernel]
        omega
      exact Int.ofNat_lt.mp e4
theorem bd_of_lt {n : Int} {k m : Nat} (h0 : 0 ≤ n) (h1 : n < k) (h : k ≤ 2 ^ m) : Bd m n := by
  unfold Bd
  omega
def sp_l_signed (T : Tx K mg) : Sp := fun vs H Q E => ∃ (p : Addr) (n B : Int), vs = [.ref p, .int n] ∧ 0 ≤ n ∧ n < 104 ∧ Pen H p B ∧ B ≤ 800000 ∧ Drawn H Q p (B + 20) fun d => Bd 400 d
theorem ok_l_signed (T : Tx K mg) : FnOk P w K mg base (L2.CX P w) 3 T.a_l_signed T.d_l_signed P_l_signed (sp_l_signed T) := by
  have G_l_draw : FnOk P w K mg base (L2.CX P w) 1 _ _ _ _ := ok_l_draw T
  have G_l_great : FnOk P w K mg base (L2.CX P w) 2 _ _ _ _ := ok_l_great T
  refine T.F_l_signed.okX sc_l_signed (fun vs H Q E h => ?_) (fun cdv A outer s H vs Q E hr h => ?_)
  · obtain ⟨p, n, B, rfl, _⟩ := h
    rfl
  · obtain ⟨p, n, B, rfl, h0, h1, hp, hB, k⟩ := h
    refine ⟨_, (pss_cons (ps_set (i := 2) sc_l_signed.nd rfl (.inl rfl) (pe_ifExp (PW.pt (pw_or (pt_cmpR op_lt (pv 1) pe_int (nomark _)) (pw_or1 (pt_cmpR op_eq (pe_call G_l_draw (hr.mono (by decide)) (by rfl) T.g_l_draw T.F_l_draw.kp T.b_l_draw .nil passL (pa_cons (pv 0) (pa_cons pe_int pa_nil))) pe_int (nomark _))))) (pe_call G_l_draw (hr.mono (by decide)) (by rfl) T.g_l_draw T.F_l_draw.kp T.b_l_draw .nil passL (pa_cons (pv 0) (pa_cons pe_int pa_nil))) (pe_call G_l_great (hr.mono (by decide)) (by rfl) T.g_l_great T.F_l_great.kp T.b_l_great .nil passL (pa_cons (pv 0) (pa_cons (pv 1) pa_nil)))))
 (pss_one (ps_ret (pe_ifExp (pt_cmpR op_eq (pe_call G_l_draw (hr.mono (by decide)) (by rfl) T.g_l_draw T.F_l_draw.kp T.b_l_draw .nil passL (pa_cons (pv 0) (pa_cons pe_int pa_nil))) pe_int (nomark _)) (pv 2) (pe_un un_neg (pv 2)))))), ?_⟩
    have b12 : ∀ d : Int, 0 ≤ d ∧ d < 12 → Bd 400 d := fun d h => bd_of_lt h.1 (k := 12) (by omega) (by decide)
    refine ⟨_, rfl, _, _, rfl, rfl, _, rfl, ?_⟩
    refine ite2 (fun c => iteT ?_) (fun c => ?_)
    · refine ⟨_, rfl, p, 12, B, rfl, by decide, by decide, hp, by omega, fun d H1 hd b1 q1 => ?_⟩
      exact ⟨_, rfl, p, 2, _, rfl, by decide, by decide, q1, by omega, fun d9 H9 hd9 b9 q9 => ⟨rfl, _, rfl, ite2 (fun _ => ⟨_, rfl, k _ _ (b12 d hd) (b1.trans b9) (q9.le (by omega))⟩) (fun _ => ⟨_, rfl, _, rfl, k _ _ ((b12 d hd)).neg (b1.trans b9) (q9.le (by omega))⟩)⟩⟩
    · refine ⟨_, rfl, p, 4, B, rfl, by decide, by decide, hp, by omega, fun d0 H0 hd0 b0 q0 => ⟨rfl, _, rfl, ite2 (fun _ => ?_) (fun _ => ?_)⟩⟩
      · refine ⟨_, rfl, p, 12, _, rfl, by decide, by decide, q0, by omega, fun d H1 hd b1 q1 => ?_⟩
        exact ⟨_, rfl, p, 2, _, rfl, by decide, by decide, q1, by omega, fun d9 H9 hd9 b9 q9 => ⟨rfl, _, rfl, ite2 (fun _ => ⟨_, rfl, k _ _ (b12 d hd) ((b0.trans b1).trans b9) (q9.le (by omega))⟩) (fun _ => ⟨_, rfl, _, rfl, k _ _ ((b12 d hd)).neg ((b0.trans b1).trans b9) (q9.le (by omega))⟩)⟩⟩
      · have c7 : 7 ≤ n := by have := of_decide_eq_false (Bool.eq_false_iff.mpr c); omega
        refine ⟨_, rfl, _, rfl, p, n, _, rfl, c7, h1, q0, by omega, fun d H1 hd b1 q1 => ?_⟩
        exact ⟨_, rfl, p, 2, _, rfl, by decide, by decide, q1, by omega, fun d9 H9 hd9 b9 q9 => ⟨rfl, _, rfl, ite2 (fun _ => ⟨_, rfl, k _ _ hd.2 ((b0.trans b1).trans b9) (q9.le (by omega))⟩) (fun _ => ⟨_, rfl, _, rfl, k _ _ (hd.2).neg ((b0.trans b1).trans b9) (q9.le (by omega))⟩)⟩⟩
end
end AW

set_option linter.all false
set_option maxRecDepth 100000
set_option maxHeartbeats 8000000
namespace AW
open PySem PySem.Spec PyProof.Rows L2
/-- places as triples -/
structure G where
  x : Int
  y : Int
  a : Int
  deriving DecidableEq
theorem G.ext {g h : G} (h1 : g.x = h.x) (h2 : g.y = h.y) (h3 : g.a = h.a) : g = h := by cases g; cases h; simp_all
def gV (g : G) : List V := [.int g.x, .int g.y, .int g.a]
def G.mul (g h : G) : G := ⟨g.x + h.x, g.y + h.y, g.a + h.a + g.x * h.y⟩
def Bg (k : Nat) (g : G) : Prop := Bd k g.x ∧ Bd k g.y ∧ Bd k g.a
theorem Bg.mono {k m : Nat} {g : G} (h : Bg k g) (l : k ≤ m) : Bg m g := ⟨h.1.mono l, h.2.1.mono l, h.2.2.mono l⟩
def Ltr (z : Str) : Prop := z = "e" ∨ z = "w" ∨ z = "n" ∨ z = "s"
/-- a step further -/
def goG (z : Str) (g : G) : G := if z = "e" then ⟨g.x + 1, g.y, g.a⟩ else if z = "w" then ⟨g.x + -1, g.y, g.a⟩ else if z = "n" then ⟨g.x, g.y + 1, g.a + g.x * 1⟩ else ⟨g.x, g.y - 1, g.a - g.x * 1⟩
theorem goG_e (g : G) : goG "e" g = ⟨g.x + 1, g.y, g.a⟩ := if_pos rfl
theorem goG_w (g : G) : goG "w" g = ⟨g.x + -1, g.y, g.a⟩ := (if_neg (by decide +kernel)).trans (if_pos rfl)
theorem goG_n (g : G) : goG "n" g = ⟨g.x, g.y + 1, g.a + g.x * 1⟩ := (if_neg (by decide +kernel)).trans ((if_neg (by decide +kernel)).trans (if_pos rfl))
theorem goG_s (g : G) : goG "s" g = ⟨g.x, g.y - 1, g.a - g.x * 1⟩ := (if_neg (by decide +kernel)).trans ((if_neg (by decide +kernel)).trans (if_neg (by decide +kernel)))
section
variable {P : Program} {w : World} {K : PySem.W.Frag} {mg : Str → Option Value} {base : Heap}
abbrev PG' (T : Tx K mg) (H : Hp) (p : Addr) (g : G) : Prop := PlAt T H p g.x g.y g.a
/-- a tuple of a triple -/
abbrev Tp (H : Hp) (t : Addr) (g : G) : Prop := H t = some (.tup (gV g))
def NewT (H : Hp) (Q : VK) (g : G) : Prop := ∀ t H', Same H H' → H t = none → Tp H' t g → Q (.ref t) H'
theorem mk_facts (T : Tx K mg) {H H' : Hp} {p dx : Addr} {x y a : Int} (hp : H p = none) (hd : H dx = none) (s : ∀ b o, b ≠ p → upd (upd H dx (.own p)) p (.ins T.C_Place dx []) b = some o → H' b = some o)
    (e : H' p = some (.ins T.C_Place dx (flds x y a))) : Same H H' ∧ PlAt T H' p x y a :=
  ⟨fun b o h => s b o (ne_of_none h hp) (by rw [upd_ne (ne_of_none h hp), upd_ne (ne_of_none h hd)]; exact h), ⟨dx, e⟩⟩
def sp_l_gone (T : Tx K mg) : Sp := fun vs H Q E => ∃ (t : Addr) (g : G) (z : Str), vs = [.ref t, .str z, .int 1] ∧ Tp H t g ∧ Ltr z ∧ Bg 2000 g ∧ NewT H Q (goG z g)
theorem ok_l_gone (T : Tx K mg) : FnOk P w K mg base (L2.CX P w) 1 T.a_l_gone T.d_l_gone P_l_gone (sp_l_gone T) := by
  refine T.F_l_gone.okX sc_l_gone (fun vs H Q E h => ?_) (fun cdv A outer s H vs Q E hr h => ?_)
  · obtain ⟨t, g, z, rfl, _⟩ := h
    rfl
  · obtain ⟨t, g, z, rfl, ht, hz, bg, k⟩ := h
    refine ⟨_, (pss_cons (ps_asg (pv 0) (pg_tup rfl (pgs_cons (pg_name (i := 3) sc_l_gone.nd rfl (.inl rfl)) (pgs_cons (pg_name (i := 4) sc_l_gone.nd rfl (.inl rfl)) (pgs_cons (pg_name (i := 5) sc_l_gone.nd rfl (.inl rfl)) pgs_nil)))))
 (pss_cons (ps_if (pt_cmpR op_in_str (pv 1) pe_str (by rfl))
 (pss_one (ps_ret (pe_tup (pa_cons (pe_op op_add (pv 3) (pe_ifExp (pt_cmpR op_eq (pv 1) pe_str (nomark _)) (pv 2) (pe_un un_neg (pv 2)))) (pa_cons (pv 4) (pa_cons (pv 5) pa_nil))))))
 pss_nil)
 (pss_cons (ps_if (pt_cmpR op_eq (pv 1) pe_str (nomark _))
 (pss_one (ps_ret (pe_tup (pa_cons (pv 3) (pa_cons (pe_op op_add (pv 4) (pv 2)) (pa_cons (pe_op op_add (pv 5) (pe_op op_mulW (pv 3) (pv 2))) pa_nil))))))
 pss_nil)
 (pss_one (ps_ret (pe_tup (pa_cons (pv 3) (pa_cons (pe_op op_sub (pv 4) (pv 2)) (pa_cons (pe_op op_sub (pv 5) (pe_op op_mulW (pv 3) (pv 2))) pa_nil))))))))), ?_⟩
    have new : ∀ g', g' = goG z g → ∀ q, H q = none → Q (.ref q) (upd H q (.tup (gV g'))) := fun g' e q nq => by
      subst e
      exact k q _ (Same.laid nq) nq upd_same
    have sl : 3 ≤ sizeLine := by decide
    have m1 : CMulW g.x 1 := cmw (bg.1.mono (by decide)) (Bd.one (by decide))
    refine ⟨_, rfl, t, gV g, rfl, SqT.of ht, rfl, _, _, rfl, _, _, rfl, _, _, rfl, rfl, ?_⟩
    refine ⟨_, rfl, _, _, rfl, rfl, _, rfl, ?_⟩
    rcases hz with rfl | rfl | rfl | rfl
    · refine ifT (by decide +kernel) ?_
      exact ⟨_, rfl, _, rfl, rfl, _, rfl, iteT ⟨_, rfl, _, _, rfl, rfl, _, rfl, _, rfl, sl, new _ (goG_e g).symm⟩⟩
    · refine ifT (by decide +kernel) ?_
      exact ⟨_, rfl, _, rfl, rfl, _, rfl, iteF ⟨_, rfl, _, rfl, _, _, rfl, rfl, _, rfl, _, rfl, sl, new _ (goG_w g).symm⟩⟩
    · refine ifN (by decide +kernel) ?_
      exact ⟨_, rfl, rfl, _, rfl, iteT ⟨_, rfl, _, rfl, _, rfl, _, _, rfl, rfl, _, rfl, _, rfl, _, rfl, _, _, rfl, rfl, m1, _, _, rfl, rfl, sl, new _ (goG_n g).symm⟩⟩
    · refine ifN (by decide +kernel) ?_
      exact ⟨_, rfl, rfl, _, rfl, iteF ⟨_, rfl, _, rfl, _, rfl, _, _, rfl, rfl, _, rfl, _, rfl, _, rfl, _, _, rfl, rfl, m1, _, _, rfl, rfl, sl, new _ (goG_s g).symm⟩⟩
def sp_l_place (T : Tx K mg) : Sp := fun vs H Q E => ∃ (t : Addr) (g : G), vs = [.ref t] ∧ Tp H t g ∧ ∀ r H', Same H H' → H r = none → PG' T H' r g → Q (.ref r) H'
theorem ok_l_place (T : Tx K mg) : FnOk P w K mg base (L2.CX P w) 6 T.a_l_place T.d_l_place P_l_place (sp_l_place T) := by
  have G_Place_init : FnOk P w K mg base (L2.CX P w) 4 _ _ _ _ := ok_Place_init T
  refine T.F_l_place.okX sc_l_place (fun vs H Q E h => ?_) (fun cdv A outer s H vs Q E hr h => ?_)
  · obtain ⟨t, g, rfl, _⟩ := h
    rfl
  · obtain ⟨t, g, rfl, ht, k⟩ := h
    refine ⟨_, (pss_one (ps_ret (pe_make T.M_Place G_Place_init (hr.mono (by decide)) (by rfl) T.g_C_Place T.b_Place_init .nil passL (pa_cons (pe_ix ix_tup (pv 0) pe_int (fun _ _ => rfl)) (pa_cons (pe_ix ix_tup (pv 0) pe_int (fun _ _ => rfl)) (pa_cons (pe_ix ix_tup (pv 0) pe_int (fun _ _ => rfl)) pa_nil)))))), ?_⟩
    refine ⟨_, rfl, t, _, _, _, rfl, rfl, SqT.of ht, rfl, _, rfl, t, _, _, _, rfl, rfl, SqT.of ht, rfl, _, rfl, t, _, _, _, rfl, rfl, SqT.of ht, rfl, ?_⟩
    intro r dd n1 hd1 _
    refine ⟨_, _, _, _, _, rfl, upd_same, .int _, .int _, .int _, .inl ⟨_, _, _, rfl, rfl, rfl, fun H1 ss ee => ⟨rfl, ?_⟩⟩⟩
    obtain ⟨s1, p1⟩ := mk_facts T n1 hd1 ss ee
    exact k r H1 s1 n1 p1
def sp_l_times (T : Tx K mg) : Sp := fun vs H Q E => ∃ (t u : Addr) (g h : G), vs = [.ref t, .ref u] ∧ Tp H t g ∧ Tp H u h ∧ Bg 2000 g ∧ Bg 2000 h ∧ NewT H Q (g.mul h)
theorem ok_l_times (T : Tx K mg) : FnOk P w K mg base (L2.CX P w) 1 T.a_l_times T.d_l_times P_l_times (sp_l_times T) := by
  refine T.F_l_times.okX sc_l_times (fun vs H Q E h => ?_) (fun cdv A outer s H vs Q E hr h => ?_)
  · obtain ⟨t, u, g, h, rfl, _⟩ := h
    rfl
  · obtain ⟨t, u, g, h, rfl, ht, hu', bg, bh, k⟩ := h
    refine ⟨_, (pss_one (ps_ret (pe_tup (pa_cons (pe_op op_add (pe_ix ix_tup (pv 0) pe_int (fun _ _ => rfl)) (pe_ix ix_tup (pv 1) pe_int (fun _ _ => rfl))) (pa_cons (pe_op op_add (pe_ix ix_tup (pv 0) pe_int (fun _ _ => rfl)) (pe_ix ix_tup (pv 1) pe_int (fun _ _ => rfl))) (pa_cons (pe_op op_add (pe_op op_add (pe_ix ix_tup (pv 0) pe_int (fun _ _ => rfl)) (pe_ix ix_tup (pv 1) pe_int (fun _ _ => rfl))) (pe_op op_mulW (pe_ix ix_tup (pv 0) pe_int (fun _ _ => rfl)) (pe_ix ix_tup (pv 1) pe_int (fun _ _ => rfl)))) pa_nil)))))), ?_⟩
    exact ⟨_, rfl, t, _, _, _, rfl, rfl, SqT.of ht, rfl, _, rfl, u, _, _, _, rfl, rfl, SqT.of hu', rfl, _, _, rfl, rfl, _, rfl, t, _, _, _, rfl, rfl, SqT.of ht, rfl, _, rfl, u, _, _, _, rfl, rfl, SqT.of hu', rfl, _, _, rfl, rfl, _, rfl, t, _, _, _, rfl, rfl, SqT.of ht, rfl, _, rfl, u, _, _, _, rfl, rfl, SqT.of hu', rfl, _, _, rfl, rfl, _, rfl, t, _, _, _, rfl, rfl, SqT.of ht, rfl, _, rfl, u, _, _, _, rfl, rfl, SqT.of hu', rfl, _, _, rfl, rfl, cmw (bg.1.mono (by decide)) (bh.2.1.mono (by decide)), _, _, rfl, rfl, (by show 3 ≤ sizeLine; decide), fun q nq => k q _ (Same.laid nq) nq upd_same⟩
end
end AW

set_option linter.all false
set_option maxRecDepth 100000
set_option maxHeartbeats 8000000
namespace AW
open PySem PySem.Spec PyProof.Rows L2
section
variable {P : Program} {w : World} {K : PySem.W.Frag} {mg : Str → Option Value} {base : Heap}
/-- how great a far place is -/
def Bf (g : G) : Prop := Bd 400 g.x ∧ Bd 400 g.y ∧ Bd 900 g.a
theorem Bf.bg {g : G} (h : Bf g) : Bg 1000 g := ⟨h.1.mono (by decide), h.2.1.mono (by decide), h.2.2.mono (by decide)⟩
def NewTD (H : Hp) (Q : VK) (p : Addr) (B : Int) : Prop := ∀ (t : Addr) (H' : Hp) (g : G), But p H H' → Tp H' t g → Bf g → Pen H' p B → Q (.ref t) H'
def sp_l_far (T : Tx K mg) : Sp := fun vs H Q E => ∃ (p : Addr) (n B : Int), vs = [.ref p, .int n] ∧ 0 ≤ n ∧ n < 52 ∧ Pen H p B ∧ B ≤ 700000 ∧ NewTD H Q p (B + 70)
theorem ok_l_far (T : Tx K mg) : FnOk P w K mg base (L2.CX P w) 4 T.a_l_far T.d_l_far P_l_far (sp_l_far T) := by
  have G_l_draw : FnOk P w K mg base (L2.CX P w) 1 _ _ _ _ := ok_l_draw T
  have G_l_pick : FnOk P w K mg base (L2.CX P w) 2 _ _ _ _ := ok_l_pick T
  have G_l_signed : FnOk P w K mg base (L2.CX P w) 3 _ _ _ _ := ok_l_signed T
  refine T.F_l_far.okX sc_l_far (fun vs H Q E h => ?_) (fun cdv A outer s H vs Q E hr h => ?_)
  · obtain ⟨p, n, B, rfl, _⟩ := h
    rfl
  · obtain ⟨p, n, B, rfl, h0, h1, hp, hB, k⟩ := h
    refine ⟨_, (pss_cons (ps_par (i := 2) (j := 3) (by rfl) sc_l_far.nd rfl rfl (by decide) rfl rfl (pa_cons (pe_call G_l_signed (hr.mono (by decide)) (by rfl) T.g_l_signed T.F_l_signed.kp T.b_l_signed .nil passL (pa_cons (pv 0) (pa_cons (pv 1) pa_nil))) (pa_cons (pe_call G_l_signed (hr.mono (by decide)) (by rfl) T.g_l_signed T.F_l_signed.kp T.b_l_signed .nil passL (pa_cons (pv 0) (pa_cons (pv 1) pa_nil))) pa_nil)) (by rfl))
 (pss_cons (ps_set (i := 4) sc_l_far.nd rfl (.inl rfl) (pe_call G_l_draw (hr.mono (by decide)) (by rfl) T.g_l_draw T.F_l_draw.kp T.b_l_draw .nil passL (pa_cons (pv 0) (pa_cons pe_int pa_nil))))
 (pss_cons (ps_if (pt_cmpR op_eq (pv 4) pe_int (nomark _))
 (pss_one (ps_ret (pe_tup (pa_cons (pv 2) (pa_cons (pv 3) (pa_cons (pe_call G_l_signed (hr.mono (by decide)) (by rfl) T.g_l_signed T.F_l_signed.kp T.b_l_signed .nil passL (pa_cons (pv 0) (pa_cons (pe_op op_mul pe_int (pv 1)) pa_nil))) pa_nil))))))
 pss_nil)
 (pss_cons (ps_par (i := 5) (j := 6) (by rfl) sc_l_far.nd rfl rfl (by decide) rfl rfl (pa_cons (pe_op op_add (pe_callB call_abs (by rfl) T.n_abs (by decide +kernel) (pa_cons (pv 2) pa_nil)) (pe_call G_l_draw (hr.mono (by decide)) (by rfl) T.g_l_draw T.F_l_draw.kp T.b_l_draw .nil passL (pa_cons (pv 0) (pa_cons pe_int pa_nil)))) (pa_cons (pe_op op_add (pe_callB call_abs (by rfl) T.n_abs (by decide +kernel) (pa_cons (pv 3) pa_nil)) (pe_call G_l_draw (hr.mono (by decide)) (by rfl) T.g_l_draw T.F_l_draw.kp T.b_l_draw .nil passL (pa_cons (pv 0) (pa_cons pe_int pa_nil)))) pa_nil)) (by rfl))
 (pss_cons (ps_if (pt_cmpR op_gt (pv 4) pe_int (nomark _))
 (pss_one (ps_par (i := 5) (j := 6) (by rfl) sc_l_far.nd rfl rfl (by decide) rfl rfl (pa_cons (pe_op op_add (pe_callB (call_max2 rfl) (by rfl) T.n_max (by decide +kernel) (pa_cons (pv 5) (pa_cons (pv 6) pa_nil))) (pe_call G_l_draw (hr.mono (by decide)) (by rfl) T.g_l_draw T.F_l_draw.kp T.b_l_draw .nil passL (pa_cons (pv 0) (pa_cons pe_int pa_nil)))) (pa_cons (pe_callB (call_max2 rfl) (by rfl) T.n_max (by decide +kernel) (pa_cons (pv 5) (pa_cons (pv 6) pa_nil))) pa_nil)) (by rfl)))
 pss_nil)
 (pss_cons (ps_set (i := 7) sc_l_far.nd rfl (.inl rfl) (pe_op op_sub (pe_op op_add (pe_op op_mulW (pv 5) (pv 6)) (pe_call G_l_draw (hr.mono (by decide)) (by rfl) T.g_l_draw T.F_l_draw.kp T.b_l_draw .nil passL (pa_cons (pv 0) (pa_cons pe_int pa_nil)))) pe_int))
 (pss_one (ps_ret (pe_tup (pa_cons (pv 2) (pa_cons (pv 3) (pa_cons (pe_call G_l_pick (hr.mono (by decide)) (by rfl) T.g_l_pick T.F_l_pick.kp T.b_l_pick .nil passL (pa_cons (pv 0) (pa_cons (pe_lst (pa_cons (pv 7) (pa_cons (pe_op op_sub (pe_op op_mulW (pv 2) (pv 3)) (pv 7)) pa_nil))) pa_nil))) pa_nil)))))))))))), ?_⟩
    have sl : 3 ≤ sizeLine := by decide
    have sl2 : 2 ≤ sizeLine := by decide
    have sm : ∀ d : Int, 0 ≤ d ∧ d < 9 → Bd 400 d := fun d h => bd_of_lt h.1 (k := 9) (by omega) (by decide)
    refine ⟨_, rfl, _, rfl, p, n, B, rfl, h0, by omega, hp, by omega, fun x H1 bx b1 q1 => ?_⟩
    refine ⟨_, rfl, _, rfl, p, n, _, rfl, h0, by omega, q1, by omega, fun y H2 by' b2 q2 => ?_⟩
    refine ⟨_, _, rfl, ?_⟩
    refine ⟨_, rfl, p, 4, _, rfl, by decide, by decide, q2, by omega, fun path H3 hpa b3 q3 => ?_⟩
    have b03 := (b1.trans b2).trans b3
    refine ⟨_, rfl, rfl, _, rfl, ?_⟩
    refine ite2 (fun c => ?_) (fun c => ?_)
    · refine ⟨_, rfl, _, rfl, _, rfl, _, rfl, _, _, rfl, rfl, .inl ⟨by decide, by decide⟩, p, _, _, rfl, by omega, by omega, q3, by omega, fun a H4 ba b4 q4 => ?_⟩
      exact ⟨sl, fun t nt => k t _ ⟨x, y, a⟩ ((b03.trans b4).new nt) upd_same ⟨bx.mono (by decide), by'.mono (by decide), ba.mono (by decide)⟩ (q4.mono (by omega) (Same.laid nt))⟩
    · have b5' : ∀ d : Int, 0 ≤ d ∧ d < 5 → Bd 400 d := fun d h => bd_of_lt h.1 (k := 5) (by omega) (by decide)
      have b2' : Bd 400 2 := bd_of_lt (by decide) (k := 3) (by decide) (by decide)
      have abx : Bd 400 (if x < 0 then -x else x) := by rw [ab_if]; exact bx.ab
      have aby : Bd 400 (if y < 0 then -y else y) := by rw [ab_if]; exact by'.ab
      refine ⟨_, rfl, _, rfl, _, rfl, p, 9, _, rfl, by decide, by decide, q3, by omega, fun d1 H4 hd1 b4 q4 => ?_⟩
      refine ⟨_, _, rfl, rfl, _, rfl, _, rfl, _, rfl, p, 9, _, rfl, by decide, by decide, q4, by omega, fun d2 H5 hd2 b5 q5 => ?_⟩
      refine ⟨_, _, rfl, rfl, _, _, rfl, ?_⟩
      have bW := (abx.add (sm d1 hd1)).mono (show 401 ≤ 404 by decide)
      have bH := (aby.add (sm d2 hd2)).mono (show 401 ≤ 404 by decide)
      have b05 := (b03.trans b4).trans b5
      have mx : ∀ i j : Int, Bd 401 i → Bd 401 j → Bd 401 (if j > i then j else i) := fun i j h g => by split <;> assumption
      have bM := mx _ _ (abx.add (sm d1 hd1)) (aby.add (sm d2 hd2))
      refine ⟨_, rfl, _, _, rfl, rfl, _, rfl, ?_⟩
      refine ite2 (fun c => ?_) (fun c => ?_)
      · refine ⟨_, rfl, _, rfl, _, _, rfl, _, rfl, p, 3, _, rfl, by decide, by decide, q5, by omega, fun d3 H6 hd3 b6 q6 => ?_⟩
        have sm3 : Bd 400 d3 := bd_of_lt hd3.1 (k := 3) (by have := hd3.2; omega) (by decide)
        have bM2 := (bM.add (sm3.mono (show 400 ≤ 401 by decide))).mono (show 402 ≤ 404 by decide)
        have bM1 := bM.mono (show 401 ≤ 404 by decide)
        refine ⟨_, _, rfl, rfl, _, rfl, _, rfl, _, _, rfl, _, _, rfl, ?_⟩
        refine ⟨_, rfl, _, rfl, _, _, rfl, rfl, cmw (bM2.mono (by decide)) (bM1.mono (by decide)), _, rfl, p, 5, _, rfl, by decide, by decide, q6, by omega, fun d4 H7 hd4 b7 q7 => ?_⟩
        have bar := (((bM2.mul bM1).mono (show 404 + 404 ≤ 808 by decide)).add ((b5' d4 hd4).mono (show 400 ≤ 808 by decide))).sub (b2'.mono (show 400 ≤ 809 by decide))
        refine ⟨_, _, rfl, rfl, _, _, rfl, rfl, _, rfl, _, rfl, _, rfl, _, rfl, _, rfl, _, rfl, _, _, rfl, rfl, cmw (bx.mono (by decide)) (by'.mono (by decide)), _, rfl, _, _, rfl, rfl, sl2, fun l nl => ?_⟩
        refine ⟨p, .ref l, _, rfl, q7.mono (Int.le_refl _) (Same.laid nl), by omega, .inl ⟨l, _, rfl, upd_same, (by show 0 < 2; decide), (by show 2 ≤ 1000; decide), fun v H8 hv b9 q9 => ?_⟩⟩
        obtain ⟨a, rfl, ba⟩ : ∃ a : Int, v = .int a ∧ Bd 900 a := by
          simp only [List.mem_cons, List.mem_nil_iff, or_false] at hv
          rcases hv with rfl | rfl
          · exact ⟨_, rfl, bar.mono (by decide)⟩
          · exact ⟨_, rfl, (((bx.mul by').mono (show 400 + 400 ≤ 810 by decide)).sub bar).mono (by decide)⟩
        exact ⟨sl, fun t nt => k t _ ⟨x, y, a⟩ (((((b05.trans b6).trans b7).new nl).trans b9).new nt) upd_same ⟨bx.mono (by decide), by'.mono (by decide), ba.mono (by decide)⟩ (q9.mono (by omega) (Same.laid nt))⟩
      · refine ⟨_, rfl, _, rfl, _, _, rfl, rfl, cmw (bW.mono (by decide)) (bH.mono (by decide)), _, rfl, p, 5, _, rfl, by decide, by decide, q5, by omega, fun d4 H7 hd4 b7 q7 => ?_⟩
        have bar := (((bW.mul bH).mono (show 404 + 404 ≤ 808 by decide)).add ((b5' d4 hd4).mono (show 400 ≤ 808 by decide))).sub (b2'.mono (show 400 ≤ 809 by decide))
        refine ⟨_, _, rfl, rfl, _, _, rfl, rfl, _, rfl, _, rfl, _, rfl, _, rfl, _, rfl, _, rfl, _, _, rfl, rfl, cmw (bx.mono (by decide)) (by'.mono (by decide)), _, rfl, _, _, rfl, rfl, sl2, fun l nl => ?_⟩
        refine ⟨p, .ref l, _, rfl, q7.mono (Int.le_refl _) (Same.laid nl), by omega, .inl ⟨l, _, rfl, upd_same, (by show 0 < 2; decide), (by show 2 ≤ 1000; decide), fun v H8 hv b9 q9 => ?_⟩⟩
        obtain ⟨a, rfl, ba⟩ : ∃ a : Int, v = .int a ∧ Bd 900 a := by
          simp only [List.mem_cons, List.mem_nil_iff, or_false] at hv
          rcases hv with rfl | rfl
          · exact ⟨_, rfl, bar.mono (by decide)⟩
          · exact ⟨_, rfl, (((bx.mul by').mono (show 400 + 400 ≤ 810 by decide)).sub bar).mono (by decide)⟩
        exact ⟨sl, fun t nt => k t _ ⟨x, y, a⟩ (((((b05).trans b7).new nl).trans b9).new nt) upd_same ⟨bx.mono (by decide), by'.mono (by decide), ba.mono (by decide)⟩ (q9.mono (by omega) (Same.laid nt))⟩
end
end AW

set_option linter.all false
set_option maxRecDepth 100000
set_option maxHeartbeats 8000000
namespace AW
open PySem PySem.Spec PyProof.Rows L2
/-- n is the number of fewest steps to g -/
abbrev StG (g : G) (n : Int) : Prop := Fewest.St g.x g.y g.a n
def ltrs : List Str := ["e", "n", "w", "s"]
theorem enws {i : Nat} {c : Nat} (h : ("enws" : Str).cps[i]? = some c) : ∃ z, ltrs[i]? = some z ∧ Ltr z ∧ V.str ⟨#[c]⟩ = V.str z := by
  have e : ("enws" : Str).cps = #[101, 110, 119, 115] := by decide +kernel
  rw [e] at h
  match i, h with
  | 0, h => simp at h; subst h; exact ⟨"e", rfl, .inl rfl, congrArg V.str (by decide +kernel)⟩
  | 1, h => simp at h; subst h; exact ⟨"n", rfl, .inr (.inr (.inl rfl)), congrArg V.str (by decide +kernel)⟩
  | 2, h => simp at h; subst h; exact ⟨"w", rfl, .inr (.inl rfl), congrArg V.str (by decide +kernel)⟩
  | 3, h => simp at h; subst h; exact ⟨"s", rfl, .inr (.inr (.inr rfl)), congrArg V.str (by decide +kernel)⟩
  | i + 4, h => simp at h
theorem judged {g : G} {n me mn mw ms : Int} (h : StG g n) (he : StG (goG "e" g) me) (hn : StG (goG "n" g) mn) (hw : StG (goG "w" g) mw) (hs : StG (goG "s" g) ms) :
    (∀ m ∈ [me, mn, mw, ms], m = n - 1 ∨ m = n + 1) ∧ (¬(g = ⟨0, 0, 0⟩) → 0 < n ∧ (me = n - 1 ∨ mn = n - 1 ∨ mw = n - 1 ∨ ms = n - 1)) := by
  rw [goG_e] at he
  rw [goG_w] at hw
  rw [goG_n] at hn
  rw [goG_s] at hs
  unfold StG at *
  rw [Int.mul_one] at hn hs
  have hw : Fewest.St (g.x - 1) g.y g.a mw := hw
  refine ⟨fun m hm => ?_, fun nz => ?_⟩
  · have := h.e he
    have := h.w hw
    have := h.n hn
    have := h.s hs
    simp only [List.mem_cons, List.mem_nil_iff, or_false] at hm
    omega
  · have z : ¬(g.x = 0 ∧ g.y = 0 ∧ g.a = 0) := fun ⟨h1, h2, h3⟩ => nz (G.ext h1 h2 h3)
    have a1 := h.pos
    have a2 : n ≠ 0 := fun e => z (h.home.mp e)
    have a3 := h.nearer z he hw hn hs
    omega
theorem eqv0 (g : G) : PyData.eqv (.tuple [.int g.x, .int g.y, .int g.a]) (.tuple [.int 0, .int 0, .int 0]) = decide (g = ⟨0, 0, 0⟩) := by
  by_cases h : g = ⟨0, 0, 0⟩
  · subst h
    simp [PyData.eqv, PyData.eqvAll]
  · rw [decide_eq_false h]
    rw [Bool.eq_false_iff]
    intro e
    simp [PyData.eqv, PyData.eqvAll] at e
    exact h (G.ext e.1 e.2.1 e.2.2)
theorem bg_go {z : Str} {g : G} (hz : Ltr z) (h : Bg 2000 g) : Bg 2002 (goG z g) := by
  obtain ⟨h1, h2, h3⟩ := h
  have o : Bd 2000 1 := Bd.one (by decide)
  rcases hz with rfl | rfl | rfl | rfl
  · rw [goG_e]; exact ⟨(h1.add o).mono (by decide), h2.mono (by decide), h3.mono (by decide)⟩
  · rw [goG_w]; exact ⟨(h1.add o.neg).mono (by decide), h2.mono (by decide), h3.mono (by decide)⟩
  · rw [goG_n, Int.mul_one]; exact ⟨h1.mono (by decide), (h2.add o).mono (by decide), (h3.add h1).mono (by decide)⟩
  · rw [goG_s, Int.mul_one]; exact ⟨h1.mono (by decide), (h2.sub o).mono (by decide), (h3.sub h1).mono (by decide)⟩
theorem map_get {α β : Type} {f : α → β} {l : List α} {i : Nat} {y : β} (h : (l.map f)[i]? = some y) : ∃ x, l[i]? = some x ∧ f x = y := by
  rw [List.getElem?_map] at h
  cases e : l[i]? with
  | none => rw [e] at h; cases h
  | some x => rw [e] at h; exact ⟨x, rfl, Option.some.inj h⟩
section
variable {P : Program} {w : World} {K : PySem.W.Frag} {mg : Str → Option Value} {base : Heap}
def sp_l_is_judged (T : Tx K mg) : Sp := fun vs H Q E => ∃ (t : Addr) (g : G), vs = [.ref t] ∧ Tp H t g ∧ Bg 2000 g ∧ ∀ H', Same H H' → Q (.bl true) H'
theorem ok_l_is_judged (T : Tx K mg) : FnOk P w K mg base (L2.CX P w) 7 T.a_l_is_judged T.d_l_is_judged P_l_is_judged (sp_l_is_judged T) := by
  have G_steps : FnOk P w K mg base (L2.CX P w) 4 _ _ _ _ := ok_steps T
  have G_l_place : FnOk P w K mg base (L2.CX P w) 6 _ _ _ _ := ok_l_place T
  have G_l_gone : FnOk P w K mg base (L2.CX P w) 1 _ _ _ _ := ok_l_gone T
  refine T.F_l_is_judged.okX sc_l_is_judged (fun vs H Q E h => ?_) (fun cdv A outer s H vs Q E hr h => ?_)
  · obtain ⟨t, g, rfl, _⟩ := h
    rfl
  · obtain ⟨t, g, rfl, ht, bg, k⟩ := h
    refine ⟨_, (pss_cons (ps_set (i := 1) sc_l_is_judged.nd rfl (.inr rfl) (pe_call G_steps (hr.mono (by decide)) (by rfl) T.g_steps T.F_steps.kp T.b_steps .nil passL (pa_cons (pe_call G_l_place (hr.mono (by decide)) (by rfl) T.g_l_place T.F_l_place.kp T.b_l_place .nil passL (pa_cons (pv 0) pa_nil)) pa_nil)))
 (pss_cons (ps_setLc (i := 2) (own := [("_law_letter", 3)]) (g := gName 3) (by rfl) sc_l_is_judged.nd rfl rfl (sw_true rfl rfl rfl (by decide +kernel)) (pi_str pe_str) (blkOk_by (own := [("_law_letter", 3)]) (N := N_l_is_judged) (sc := defScope s_l_is_judged) (by decide +kernel)) (fun _ _ _ _ _ => pg_name (i := 3) sc_l_is_judged.nd rfl (Or.inl rfl)) (fun _ _ _ _ _ => pts_nil) (fun _ _ _ _ _ => (pe_call G_steps (hr.mono (by decide)) (by rfl) T.g_steps T.F_steps.kp T.b_steps .nil passL (pa_cons (pe_call G_l_place (hr.mono (by decide)) (by rfl) T.g_l_place T.F_l_place.kp T.b_l_place .nil passL (pa_cons (pe_call G_l_gone (hr.mono (by decide)) (by rfl) T.g_l_gone T.F_l_gone.kp T.b_l_gone .nil passL (pa_cons (pv 0) (pa_cons (pv 3) (pa_cons pe_int pa_nil)))) pa_nil)) pa_nil))))
 (pss_cons (ps_if (PW.pt (pw_or (pt_cmpR (op_neD hr.units) (pe_lc (tt := (tTest (tOp (rIn K true) (tVar 4) (tTup (tCons (tOp (rI0 fun i j => V.int (i - j)) (tVar 1) (tC (V.int 1))) (tCons (tOp (rI0 fun i j => V.int (i + j)) (tVar 1) (tC (V.int 1))) tNil)))))) (own := [("_law_number", 4)]) (g := gName 4) (by rfl) sc_l_is_judged.nd (pi_list (pv 2)) (blkOk_by (own := [("_law_number", 4)]) (N := N_l_is_judged) (sc := defScope s_l_is_judged) (by decide +kernel)) (fun _ _ _ _ _ => pg_name (i := 4) sc_l_is_judged.nd rfl (Or.inl rfl)) (fun _ _ _ _ _ => (pts_one (pt_cmpR op_notIn_seq (pv 4) (pe_tup (pa_cons (pe_op op_sub (pv 1) pe_int) (pa_cons (pe_op op_add (pv 1) pe_int) pa_nil))) (by rfl)))) (fun _ _ _ _ _ => (pv 4))) (pe_lst pa_nil) (nomark _)) (pw_or1 (pt_val (pe_callB call_isi (by rfl) T.n_isinstance (by decide +kernel) (pa_cons (pv 1) (pa_cons (pe_bltn (v := .ty "bool") (by rfl) T.n_bool (by decide +kernel) rfl) pa_nil)))))))
 (pss_one (ps_ret pe_bl))
 pss_nil)
 (pss_cons (ps_if (pt_cmpR (op_eqD hr.units) (pv 0) (pe_tup (pa_cons pe_int (pa_cons pe_int (pa_cons pe_int pa_nil)))) (nomark _))
 (pss_one (ps_ret (pe_cmpR op_eq (pv 1) pe_int (nomark _))))
 pss_nil)
 (pss_one (ps_ret (pe_and (pe_cmpR op_gt (pv 1) pe_int (nomark _)) (pe_one (pe_cmpR op_in_seq (pe_op op_sub (pv 1) pe_int) (pv 2) (by rfl)))))))))), ?_⟩
    refine ⟨_, rfl, t, g, rfl, ht, fun r H1 s1 n1 p1 => ?_⟩
    refine ⟨r, _, _, _, rfl, p1, bg.1.mono (by decide), bg.2.1.mono (by decide), bg.2.2.mono (by decide), fun n hn => ?_⟩
    -- the four places a step further
    refine ⟨"enws", rfl, fun D nD => ?_⟩
    refine lc_it (walk_str (z := "enws")) (fun i G' => Same H1 G' ∧ ∃ ms : List Int, G' D = some (.lst (ms.map V.int)) ∧ ms.length = i ∧ ∀ (j : Nat) (m : Int), ms[j]? = some m → ∃ z, ltrs[j]? = some z ∧ StG (goG z g) m)
      ⟨Same.laid nD, [], upd_same, rfl, (fun j m h => by rw [List.getElem?_nil] at h; cases h)⟩ (fun _ _ _ _ => trivial) ?_ ?_
    · rintro i x G' G2 hi ⟨z1, ms, z2, z3, z4⟩ ⟨rfl, c, hc, rfl⟩
      obtain ⟨z, hz, hL, ez⟩ := enws hc
      refine ⟨rfl, ?_⟩
      rw [ez]
      refine ⟨_, rfl, _, rfl, t, g, z, rfl, z1 _ _ (s1 _ _ ht), hL, bg, fun t3 H3 s3 n3 e3 => ?_⟩
      refine ⟨t3, _, rfl, e3, fun r4 H4 s4 n4 p4 => ?_⟩
      have bz := bg_go hL bg
      refine ⟨r4, _, _, _, rfl, p4, bz.1.mono (by decide), bz.2.1.mono (by decide), bz.2.2.mono (by decide), fun m hm => ?_⟩
      have D4 := s4 _ _ (s3 _ _ z2)
      refine ⟨_, D4, ?_, ?_, ms ++ [m], ?_, ?_, ?_⟩
      · rw [List.length_map, z3]
        have : ("enws" : Str).cps.size = 4 := by decide +kernel
        have : 4 < sizeLine := by decide
        omega
      · intro b o h
        have nb : b ≠ D := fun e => by rw [e, nD] at h; cases h
        rw [upd_ne nb]
        exact s4 _ _ (s3 _ _ (z1 _ _ h))
      · rw [upd_same, List.map_append]; rfl
      · rw [List.length_append, z3]; rfl
      · intro j m' h
        by_cases hj : j < ms.length
        · rw [List.getElem?_append_left hj] at h
          exact z4 j m' h
        · have e1 : j = ms.length := by
            have := (List.getElem?_eq_some_iff.mp h).1
            rw [List.length_append] at this
            simp at this
            omega
          rw [e1, List.getElem?_append_right (Nat.le_refl _)] at h
          simp at h
          rw [e1, z3, ← h]
          exact ⟨z, hz, hm⟩
    · rintro H5 ⟨s5, ms, eD, l4, hms⟩
      have l4 : ms.length = 4 := l4
      obtain ⟨me, mn, mw, mso, rfl⟩ : ∃ a b c d, ms = [a, b, c, d] := by
        match ms, l4 with
        | [a, b, c, d], _ => exact ⟨a, b, c, d, rfl⟩
      have gt : ∀ (j : Nat) (m : Int) (z : Str), [me, mn, mw, mso][j]? = some m → ltrs[j]? = some z → StG (goG z g) m := fun j m z h1 h2 => by
        obtain ⟨z', h3, h4⟩ := hms j m h1
        rw [h2] at h3
        cases h3
        exact h4
      have jd := judged hn (gt 0 me "e" rfl rfl) (gt 1 mn "n" rfl rfl) (gt 2 mw "w" rfl rfl) (gt 3 mso "s" rfl rfl)
      obtain ⟨j1, j2⟩ := jd
      refine ⟨_, rfl, D, rfl, ⟨_, SqL.of eD⟩, fun D2 nD2 => ?_⟩
      refine lc_list (xs := [me, mn, mw, mso].map V.int) (fun i G' => Same H5 G' ∧ G' D2 = some (.lst [])) ⟨Same.laid nD2, upd_same⟩ (fun i G' _ z => SqL.of (z.1 _ _ eD)) ?_ ?_
      · rintro i x G' hi ⟨z1, z2⟩
        obtain ⟨m, hm, rfl⟩ := map_get hi
        have j := j1 m (List.mem_of_getElem? hm)
        refine ⟨rfl, ?_⟩
        refine ⟨_, rfl, _, rfl, _, _, rfl, rfl, _, rfl, _, _, rfl, rfl, (by show 2 ≤ sizeLine; decide), fun tq ntq => ⟨tq, _, rfl, .inr (SqT.of upd_same), rfl, rfl, _, rfl, ?_⟩⟩
        have e : inV (V.int m) [V.int (n - 1), V.int (n + 1)] = true := by
          rcases j with e | e <;> subst e <;> simp [inV, eqV]
        refine ifN (by show (!inV (V.int m) [V.int (n - 1), V.int (n + 1)]) = false; rw [e]; rfl) ?_
        exact ⟨Same.after z1 ntq, (Same.laid ntq) _ _ z2⟩
      · rintro H6 ⟨s6, e6⟩
        refine ⟨(by show 0 ≤ sizeLine; decide), fun e0 ne0 => ?_⟩
        have s7 : Same H6 (upd H6 e0 (.lst [])) := Same.laid ne0
        refine ⟨.list [], .list [], .lst (SqL.of (s7 _ _ e6)) .nil, .lst (SqL.of upd_same) .nil, rfl, rfl, _, rfl, ?_⟩
        refine ifN rfl ?_
        have ti : TyT T (.type "int") := .inr (.inr (.inr (.inl rfl)))
        refine ⟨_, rfl, _, _, _, _, _, rfl, .ty _, .base (.int n), kit_bool T ti, ?_⟩
        refine ⟨_, rfl, ifN rfl ?_⟩
        have sE : Same H (upd H6 e0 (.lst [])) := ((s1.trans s5).trans s6).trans s7
        have sD : Same H5 (upd H6 e0 (.lst [])) := s6.trans s7
        generalize upd H6 e0 (.lst []) = H7 at sE sD ⊢
        refine ⟨_, rfl, (by show 3 ≤ sizeLine; decide), fun t0 nt0 => ?_⟩
        have s8 : Same H7 (upd H7 t0 (.tup [.int 0, .int 0, .int 0])) := Same.laid nt0
        have e8 : upd H7 t0 (.tup [.int 0, .int 0, .int 0]) t0 = some (.tup [.int 0, .int 0, .int 0]) := upd_same
        generalize upd H7 t0 (.tup [.int 0, .int 0, .int 0]) = H8 at s8 e8 ⊢
        refine ⟨.tuple [.int g.x, .int g.y, .int g.a], .tuple [.int 0, .int 0, .int 0], .tup (SqT.of (s8 _ _ (sE _ _ ht))) (.cons (.int _) (.cons (.int _) (.cons (.int _) .nil))), .tup (SqT.of e8) (.cons (.int _) (.cons (.int _) (.cons (.int _) .nil))), rfl, rfl, _, rfl, ?_⟩
        have kk := k H8 (sE.trans s8)
        rw [eqv0]
        refine ite2 (fun c => ?_) (fun c => ?_)
        · have c := of_decide_eq_true c
          have n0 : n = 0 := (Fewest.St.home hn).mpr (by rw [c]; exact ⟨rfl, rfl, rfl⟩)
          have e : decide (V.int n = V.int 0) = true := by rw [n0]; simp
          rw [← e] at kk
          exact ⟨_, rfl, rfl, kk⟩
        · have c := of_decide_eq_false (Bool.eq_false_iff.mpr c)
          obtain ⟨n1', j3⟩ := j2 c
          have e : inV (V.int (n - 1)) [V.int me, V.int mn, V.int mw, V.int mso] = true := by
            rcases j3 with e | e | e | e <;> subst e <;> simp [inV, eqV]
          rw [← e] at kk
          exact ⟨_, rfl, _, _, rfl, rfl, _, rfl, ifT (decide_eq_true n1') ⟨_, rfl, _, _, rfl, rfl, _, rfl, D, _, rfl, .inl (SqL.of (s8 _ _ (sD _ _ eD))), rfl, rfl, kk⟩⟩
end
end AW

set_option linter.all false
set_option maxRecDepth 100000
set_option maxHeartbeats 16000000
namespace AW
open PySem PySem.Spec PyProof.Rows L2
section
variable {P : Program} {w : World} {K : PySem.W.Frag} {mg : Str → Option Value} {base : Heap}
def sp_l_ways (T : Tx K mg) : Sp := fun vs H Q E => ∃ (t : Addr) (g : G), vs = [.ref t] ∧ Tp H t g ∧ Bg 2000 g ∧
  ∀ l t1 t2 t3 t4 t5 H', Same H H' → H' l = some (.lst [.ref t1, .ref t2, .ref t3, .ref t4, .ref t5]) → Tp H' t1 ⟨-g.y, g.x, g.a - g.x * g.y⟩ → Tp H' t2 ⟨-g.x, -g.y, g.a⟩ → Tp H' t3 ⟨-g.x, g.y, -g.a⟩ → Tp H' t4 ⟨g.y, g.x, g.x * g.y - g.a⟩ → Tp H' t5 ⟨-g.x, -g.y, g.x * g.y - g.a⟩ → Q (.ref l) H'
theorem ok_l_ways (T : Tx K mg) : FnOk P w K mg base (L2.CX P w) 1 T.a_l_ways T.d_l_ways P_l_ways (sp_l_ways T) := by
  refine T.F_l_ways.okX sc_l_ways (fun vs H Q E h => ?_) (fun cdv A outer s H vs Q E hr h => ?_)
  · obtain ⟨t, g, rfl, _⟩ := h
    rfl
  · obtain ⟨t, g, rfl, ht, bg, k⟩ := h
    refine ⟨_, (pss_cons (ps_asg (pv 0) (pg_tup rfl (pgs_cons (pg_name (i := 1) sc_l_ways.nd rfl (.inl rfl)) (pgs_cons (pg_name (i := 2) sc_l_ways.nd rfl (.inl rfl)) (pgs_cons (pg_name (i := 3) sc_l_ways.nd rfl (.inl rfl)) pgs_nil)))))
 (pss_one (ps_ret (pe_lst (pa_cons (pe_tup (pa_cons (pe_un un_neg (pv 2)) (pa_cons (pv 1) (pa_cons (pe_op op_sub (pv 3) (pe_op op_mulW (pv 1) (pv 2))) pa_nil)))) (pa_cons (pe_tup (pa_cons (pe_un un_neg (pv 1)) (pa_cons (pe_un un_neg (pv 2)) (pa_cons (pv 3) pa_nil)))) (pa_cons (pe_tup (pa_cons (pe_un un_neg (pv 1)) (pa_cons (pv 2) (pa_cons (pe_un un_neg (pv 3)) pa_nil)))) (pa_cons (pe_tup (pa_cons (pv 2) (pa_cons (pv 1) (pa_cons (pe_op op_sub (pe_op op_mulW (pv 1) (pv 2)) (pv 3)) pa_nil)))) (pa_cons (pe_tup (pa_cons (pe_un un_neg (pv 1)) (pa_cons (pe_un un_neg (pv 2)) (pa_cons (pe_op op_sub (pe_op op_mulW (pv 1) (pv 2)) (pv 3)) pa_nil)))) pa_nil))))))))), ?_⟩
    have sl : 3 ≤ sizeLine := by decide
    have mm : CMulW g.x g.y := cmw (bg.1.mono (by decide)) (bg.2.1.mono (by decide))
    refine ⟨_, rfl, t, gV g, rfl, SqT.of ht, rfl, _, _, rfl, _, _, rfl, _, _, rfl, rfl, ?_⟩
    refine ⟨_, rfl, _, rfl, _, rfl, _, rfl, _, rfl, _, rfl, _, _, rfl, rfl, mm, _, _, rfl, rfl, sl, fun t1 n1 => ?_⟩
    refine ⟨_, rfl, _, rfl, _, rfl, _, rfl, _, rfl, sl, fun t2 n2 => ?_⟩
    refine ⟨_, rfl, _, rfl, _, rfl, _, rfl, _, rfl, sl, fun t3 n3 => ?_⟩
    refine ⟨_, rfl, _, rfl, _, rfl, _, rfl, _, _, rfl, rfl, mm, _, rfl, _, _, rfl, rfl, sl, fun t4 n4 => ?_⟩
    refine ⟨_, rfl, _, rfl, _, rfl, _, rfl, _, rfl, _, rfl, _, _, rfl, rfl, mm, _, rfl, _, _, rfl, rfl, sl, fun t5 n5 => ?_⟩
    refine ⟨(by show 5 ≤ sizeLine; decide), fun l nl => ?_⟩
    have a1 := Same.after (Same.laid n1 (o := .tup (gV ⟨-g.y, g.x, g.a - g.x * g.y⟩))) n2 (o := .tup (gV ⟨-g.x, -g.y, g.a⟩))
    exact k l t1 t2 t3 t4 t5 _ (Same.after (Same.after (Same.after (Same.after (Same.after (Same.laid n1) n2) n3) n4) n5) nl) upd_same
      ((Same.laid nl) _ _ ((Same.laid n5) _ _ ((Same.laid n4) _ _ ((Same.laid n3) _ _ ((Same.laid n2) _ _ upd_same)))))
      ((Same.laid nl) _ _ ((Same.laid n5) _ _ ((Same.laid n4) _ _ ((Same.laid n3) _ _ upd_same))))
      ((Same.laid nl) _ _ ((Same.laid n5) _ _ ((Same.laid n4) _ _ upd_same)))
      ((Same.laid nl) _ _ ((Same.laid n5) _ _ upd_same))
      ((Same.laid nl) _ _ upd_same)
def sp_l_closed_right (T : Tx K mg) : Sp := fun vs H Q E => ∃ (p : Addr) (B : Int), vs = [.ref p] ∧ Pen H p B ∧ B ≤ 700000 ∧ ∀ H', But p H H' → Pen H' p (B + 60) → Q (.bl true) H'
theorem ok_l_closed_right (T : Tx K mg) : FnOk P w K mg base (L2.CX P w) 6 T.a_l_closed_right T.d_l_closed_right P_l_closed_right (sp_l_closed_right T) := by
  have G_steps : FnOk P w K mg base (L2.CX P w) 4 _ _ _ _ := ok_steps T
  have G_Place_init : FnOk P w K mg base (L2.CX P w) 4 _ _ _ _ := ok_Place_init T
  have G_l_great : FnOk P w K mg base (L2.CX P w) 2 _ _ _ _ := ok_l_great T
  have G_l_pick : FnOk P w K mg base (L2.CX P w) 2 _ _ _ _ := ok_l_pick T
  refine T.F_l_closed_right.okX sc_l_closed_right (fun vs H Q E h => ?_) (fun cdv A outer s H vs Q E hr h => ?_)
  · obtain ⟨p, B, rfl, _⟩ := h
    rfl
  · obtain ⟨p, B, rfl, hp, hB, k⟩ := h
    refine ⟨_, (pss_cons (ps_par (i := 1) (j := 2) (by rfl) sc_l_closed_right.nd rfl rfl (by decide) rfl rfl (pa_cons (pe_op op_add pe_int (pe_call G_l_great (hr.mono (by decide)) (by rfl) T.g_l_great T.F_l_great.kp T.b_l_great .nil passL (pa_cons (pv 0) (pa_cons pe_int pa_nil)))) (pa_cons (pe_call G_l_pick (hr.mono (by decide)) (by rfl) T.g_l_pick T.F_l_pick.kp T.b_l_pick .nil passL (pa_cons (pv 0) (pa_cons (pe_lst (pa_cons pe_int (pa_cons pe_int pa_nil))) pa_nil))) pa_nil)) (by rfl))
 (pss_cons (ps_set (i := 3) sc_l_closed_right.nd rfl (.inl rfl) (pe_op op_mulW (pv 1) (pe_op op_add (pv 1) (pv 2))))
 (pss_cons (ps_if (PW.pt (pw_or (pt_cmpR op_ne (pe_call G_steps (hr.mono (by decide)) (by rfl) T.g_steps T.F_steps.kp T.b_steps .nil passL (pa_cons (pe_make T.M_Place G_Place_init (hr.mono (by decide)) (by rfl) T.g_C_Place T.b_Place_init .nil passL (pa_cons pe_int (pa_cons pe_int (pa_cons (pv 3) pa_nil)))) pa_nil)) (pe_op op_add (pe_op op_mul pe_int (pv 1)) (pe_op op_mul pe_int (pv 2))) (nomark _)) (pw_or1 (pt_cmpR op_ne (pe_call G_steps (hr.mono (by decide)) (by rfl) T.g_steps T.F_steps.kp T.b_steps .nil passL (pa_cons (pe_make T.M_Place G_Place_init (hr.mono (by decide)) (by rfl) T.g_C_Place T.b_Place_init .nil passL (pa_cons pe_int (pa_cons pe_int (pa_cons (pe_un un_neg (pv 3)) pa_nil)))) pa_nil)) (pe_op op_add (pe_op op_mul pe_int (pv 1)) (pe_op op_mul pe_int (pv 2))) (nomark _)))))
 (pss_one (ps_ret pe_bl))
 pss_nil)
 (pss_cons (ps_if (pt_cmpR op_ne (pe_call G_steps (hr.mono (by decide)) (by rfl) T.g_steps T.F_steps.kp T.b_steps .nil passL (pa_cons (pe_make T.M_Place G_Place_init (hr.mono (by decide)) (by rfl) T.g_C_Place T.b_Place_init .nil passL (pa_cons pe_int (pa_cons pe_int (pa_cons (pe_op op_add (pv 3) pe_int) pa_nil)))) pa_nil)) (pe_op op_add (pe_op op_add (pe_op op_mul pe_int (pv 1)) (pe_op op_mul pe_int (pv 2))) pe_int) (nomark _))
 (pss_one (ps_ret pe_bl))
 pss_nil)
 (pss_cons (ps_par (i := 4) (j := 5) (by rfl) sc_l_closed_right.nd rfl rfl (by decide) rfl rfl (pa_cons (pe_op op_add (pv 1) (pe_call G_l_great (hr.mono (by decide)) (by rfl) T.g_l_great T.F_l_great.kp T.b_l_great .nil passL (pa_cons (pv 0) (pa_cons pe_int pa_nil)))) (pa_cons (pe_op op_add pe_int (pe_call G_l_great (hr.mono (by decide)) (by rfl) T.g_l_great T.F_l_great.kp T.b_l_great .nil passL (pa_cons (pv 0) (pa_cons pe_int pa_nil)))) pa_nil)) (by rfl))
 (pss_cons (ps_if (pt_cmpR op_lt (pv 4) (pv 5) (nomark _))
 (pss_one (ps_par (i := 4) (j := 5) (by rfl) sc_l_closed_right.nd rfl rfl (by decide) rfl rfl (pa_cons (pv 5) (pa_cons (pv 4) pa_nil)) (by rfl)))
 pss_nil)
 (pss_cons (ps_if (PW.pt (pw_or (pt_cmpR op_ne (pe_call G_steps (hr.mono (by decide)) (by rfl) T.g_steps T.F_steps.kp T.b_steps .nil passL (pa_cons (pe_make T.M_Place G_Place_init (hr.mono (by decide)) (by rfl) T.g_C_Place T.b_Place_init .nil passL (pa_cons (pv 4) (pa_cons (pv 5) (pa_cons (pe_op op_mulW (pv 4) (pv 5)) pa_nil)))) pa_nil)) (pe_op op_add (pv 4) (pv 5)) (nomark _)) (pw_or1 (pt_cmpR op_ne (pe_call G_steps (hr.mono (by decide)) (by rfl) T.g_steps T.F_steps.kp T.b_steps .nil passL (pa_cons (pe_make T.M_Place G_Place_init (hr.mono (by decide)) (by rfl) T.g_C_Place T.b_Place_init .nil passL (pa_cons (pv 4) (pa_cons (pv 5) (pa_cons pe_int pa_nil)))) pa_nil)) (pe_op op_add (pv 4) (pv 5)) (nomark _)))))
 (pss_one (ps_ret pe_bl))
 pss_nil)
 (pss_cons (ps_if (pt_cmpR op_ne (pe_call G_steps (hr.mono (by decide)) (by rfl) T.g_steps T.F_steps.kp T.b_steps .nil passL (pa_cons (pe_make T.M_Place G_Place_init (hr.mono (by decide)) (by rfl) T.g_C_Place T.b_Place_init .nil passL (pa_cons (pv 4) (pa_cons pe_int (pa_cons (pe_op op_mulW (pv 4) (pv 5)) pa_nil)))) pa_nil)) (pe_op op_add (pv 4) (pe_op op_mul pe_int (pv 5))) (nomark _))
 (pss_one (ps_ret pe_bl))
 pss_nil)
 (pss_cons (ps_if (pt_cmpR op_ne (pe_call G_steps (hr.mono (by decide)) (by rfl) T.g_steps T.F_steps.kp T.b_steps .nil passL (pa_cons (pe_make T.M_Place G_Place_init (hr.mono (by decide)) (by rfl) T.g_C_Place T.b_Place_init .nil passL (pa_cons (pv 4) (pa_cons (pv 5) (pa_cons (pe_op op_add (pe_op op_mulW (pv 4) (pv 5)) pe_int) pa_nil)))) pa_nil)) (pe_op op_add (pe_op op_add (pv 4) (pv 5)) pe_int) (nomark _))
 (pss_one (ps_ret pe_bl))
 pss_nil)
 (pss_one (ps_ret (pe_cmpR op_eq (pe_call G_steps (hr.mono (by decide)) (by rfl) T.g_steps T.F_steps.kp T.b_steps .nil passL (pa_cons (pe_make T.M_Place G_Place_init (hr.mono (by decide)) (by rfl) T.g_C_Place T.b_Place_init .nil passL (pa_cons (pv 4) (pa_cons pe_int (pa_cons (pe_op op_add (pe_op op_mulW (pe_un un_neg (pv 4)) (pv 5)) pe_int) pa_nil)))) pa_nil)) (pe_op op_sub (pe_op op_add (pv 4) (pe_op op_mul pe_int (pv 5))) (pe_op op_mul pe_int (pe_callTy call_int1 (by rfl) T.n_int (by decide +kernel) (pa_cons (pe_cmpR op_eq (pv 4) pe_int (nomark _)) pa_nil)))) (nomark _))))))))))))), ?_⟩
    refine ⟨_, rfl, p, 50, B, rfl, by decide, by decide, hp, by omega, fun d H1 hd b1 q1 => ?_⟩
    refine ⟨_, _, rfl, rfl, _, rfl, (by show 2 ≤ sizeLine; decide), fun l nl => ?_⟩
    refine ⟨p, .ref l, _, rfl, q1.mono (Int.le_refl _) (Same.laid nl), by omega, .inl ⟨l, _, rfl, upd_same, (by show 0 < 2; decide), (by show 2 ≤ 1000; decide), fun v H2 hv b2 q2 => ?_⟩⟩
    obtain ⟨m, rfl, hm⟩ : ∃ m : Int, v = .int m ∧ (m = 0 ∨ m = 1) := by
      simp only [List.mem_cons, List.mem_nil_iff, or_false] at hv
      rcases hv with rfl | rfl
      · exact ⟨0, rfl, .inl rfl⟩
      · exact ⟨1, rfl, .inr rfl⟩
    have b12 : But p H H2 := (b1.new nl).trans b2
    have bs : Bd 401 (1 + d) := (Bd.one (k := 400) (by decide)).add hd.2
    have bm : Bd 400 m := bd_of_lt (by omega) (k := 2) (by omega) (by decide)
    have cl := Fewest.closed1 (s := 1 + d) (k := m) (by have := hd.1; omega) hm
    have bsm : Bd 402 (1 + d + m) := bs.add (bm.mono (by decide))
    have bgr : Bd 803 ((1 + d) * (1 + d + m)) := bs.mul bsm
    have z0 : Bd 3000 0 := bd_of_lt (by decide) (k := 1) (by decide) (Nat.one_le_two_pow)
    refine ⟨_, _, rfl, ?_⟩
    refine ⟨_, rfl, _, rfl, _, rfl, _, _, rfl, rfl, _, _, rfl, rfl, cmw (bs.mono (by decide)) (bsm.mono (by decide)), ?_⟩
    have SA : Same H2 H2 := Same.refl _
    refine ⟨_, rfl, ?_⟩
    intro a1 dd1 n1 hd1 _
    refine ⟨_, _, _, _, _, rfl, upd_same, .int _, .int _, .int _, .inl ⟨_, _, _, rfl, rfl, rfl, fun A1 ss1 ee1 => ⟨rfl, ?_⟩⟩⟩
    obtain ⟨t1, m1⟩ := mk_facts T n1 hd1 ss1 ee1
    have SA := SA.trans t1
    refine ⟨a1, _, _, _, rfl, m1, z0, z0, (bgr.mono (by decide)), fun v1 hv1 => ?_⟩
    have e1 := hv1.uniq cl.1
    subst e1
    refine ⟨_, rfl, _, _, rfl, rfl, .inl ⟨by decide, by decide⟩, _, rfl, _, _, rfl, rfl, .inl ⟨by decide, by decide⟩, _, _, rfl, rfl, rfl, _, rfl, ?_⟩
    refine ifN (by simp) ?_
    refine ⟨_, rfl, _, rfl, ?_⟩
    intro a2 dd2 n2 hd2 _
    refine ⟨_, _, _, _, _, rfl, upd_same, .int _, .int _, .int _, .inl ⟨_, _, _, rfl, rfl, rfl, fun A2 ss2 ee2 => ⟨rfl, ?_⟩⟩⟩
    obtain ⟨t2, m2⟩ := mk_facts T n2 hd2 ss2 ee2
    have SA := SA.trans t2
    refine ⟨a2, _, _, _, rfl, m2, z0, z0, (bgr.neg.mono (by decide)), fun v2 hv2 => ?_⟩
    have e2 := hv2.uniq cl.2.1
    subst e2
    refine ⟨_, rfl, _, _, rfl, rfl, .inl ⟨by decide, by decide⟩, _, rfl, _, _, rfl, rfl, .inl ⟨by decide, by decide⟩, _, _, rfl, rfl, rfl, _, rfl, ?_⟩
    refine ifN (by simp) ?_
    refine ⟨_, rfl, _, _, rfl, rfl, ?_⟩
    intro a3 dd3 n3 hd3 _
    refine ⟨_, _, _, _, _, rfl, upd_same, .int _, .int _, .int _, .inl ⟨_, _, _, rfl, rfl, rfl, fun A3 ss3 ee3 => ⟨rfl, ?_⟩⟩⟩
    obtain ⟨t3, m3⟩ := mk_facts T n3 hd3 ss3 ee3
    have SA := SA.trans t3
    refine ⟨a3, _, _, _, rfl, m3, z0, z0, ((bgr.add (Bd.one (by decide))).mono (by decide)), fun v3 hv3 => ?_⟩
    have e3 := hv3.uniq cl.2.2
    subst e3
    refine ⟨_, rfl, _, _, rfl, rfl, .inl ⟨by decide, by decide⟩, _, rfl, _, _, rfl, rfl, .inl ⟨by decide, by decide⟩, _, _, rfl, rfl, _, _, rfl, rfl, rfl, _, rfl, ?_⟩
    refine ifN (by simp) ?_
    have qA := q2.mono (Int.le_refl _) SA
    have bA := b12.trans (But.of SA)
    refine ⟨_, rfl, _, rfl, p, 50, _, rfl, by decide, by decide, qA, by omega, fun d2 H3 hd2 b3 q3 => ?_⟩
    refine ⟨_, _, rfl, rfl, _, rfl, p, 28, _, rfl, by decide, by decide, q3, by omega, fun d3 H4 hd3 b4 q4 => ?_⟩
    refine ⟨_, _, rfl, rfl, _, _, rfl, ?_⟩
    have bB := (bA.trans b3).trans b4
    have bw0 : Bd 402 (1 + d + d2) := bs.add (hd2.2.mono (by decide))
    have bh0 : Bd 402 (1 + d3) := ((Bd.one (k := 400) (by decide)).add hd3.2).mono (by decide)
    have w1 : 1 ≤ 1 + d + d2 := by have := hd.1; have := hd2.1; omega
    have h1 : 1 ≤ 1 + d3 := by have := hd3.1; omega
    refine ⟨_, rfl, _, rfl, _, _, rfl, rfl, _, rfl, ?_⟩
    refine ite2 (fun c => ?_) (fun c => ?_)
    · have le : 1 + d + d2 ≤ 1 + d3 := by have := of_decide_eq_true c; omega
      refine ⟨_, rfl, _, rfl, _, _, rfl, ?_⟩
      have s1 := Fewest.side1 (w := 1 + d3) (h := 1 + d + d2) w1 le
      have s2 := Fewest.side2 (w := 1 + d3) (h := 1 + d + d2) w1 le
      have s3 := Fewest.side3 (w := 1 + d3) (h := 1 + d + d2) w1 le
      have s4 := Fewest.side4 (w := 1 + d3) (h := 1 + d + d2) w1 le
      have bw := bh0
      have bh := bw0
      have bwh := bw.mul bh
      have mm := cmw (bw.mono (show 402 ≤ 8000 by decide)) (bh.mono (show 402 ≤ 8000 by decide))
      have SB : Same H4 H4 := Same.refl _
      refine ⟨_, rfl, _, rfl, _, rfl, _, rfl, _, _, rfl, rfl, mm, ?_⟩
      intro a4 dd4 n4 hd4 _
      refine ⟨_, _, _, _, _, rfl, upd_same, .int _, .int _, .int _, .inl ⟨_, _, _, rfl, rfl, rfl, fun A4 ss4 ee4 => ⟨rfl, ?_⟩⟩⟩
      obtain ⟨t4, m4⟩ := mk_facts T n4 hd4 ss4 ee4
      have SB := SB.trans t4
      refine ⟨a4, _, _, _, rfl, m4, (bw.mono (by decide)), (bh.mono (by decide)), (bwh.mono (by decide)), fun v4 hv4 => ?_⟩
      have e4 := hv4.uniq s1.1
      subst e4
      refine ⟨_, rfl, _, rfl, _, _, rfl, rfl, rfl, _, rfl, ?_⟩
      refine ifN (by simp) ?_
      refine ⟨_, rfl, _, rfl, ?_⟩
      intro a5 dd5 n5 hd5 _
      refine ⟨_, _, _, _, _, rfl, upd_same, .int _, .int _, .int _, .inl ⟨_, _, _, rfl, rfl, rfl, fun A5 ss5 ee5 => ⟨rfl, ?_⟩⟩⟩
      obtain ⟨t5, m5⟩ := mk_facts T n5 hd5 ss5 ee5
      have SB := SB.trans t5
      refine ⟨a5, _, _, _, rfl, m5, (bw.mono (by decide)), (bh.mono (by decide)), z0, fun v5 hv5 => ?_⟩
      have e5 := hv5.uniq s1.2
      subst e5
      refine ⟨_, rfl, _, rfl, _, _, rfl, rfl, rfl, _, rfl, ?_⟩
      refine ifN (by simp) ?_
      refine ⟨_, rfl, _, rfl, _, rfl, _, _, rfl, rfl, mm, ?_⟩
      intro a6 dd6 n6 hd6 _
      refine ⟨_, _, _, _, _, rfl, upd_same, .int _, .int _, .int _, .inl ⟨_, _, _, rfl, rfl, rfl, fun A6 ss6 ee6 => ⟨rfl, ?_⟩⟩⟩
      obtain ⟨t6, m6⟩ := mk_facts T n6 hd6 ss6 ee6
      have SB := SB.trans t6
      refine ⟨a6, _, _, _, rfl, m6, (bw.mono (by decide)), z0, (bwh.mono (by decide)), fun v6 hv6 => ?_⟩
      have e6 := hv6.uniq s2
      subst e6
      refine ⟨_, rfl, _, rfl, _, _, rfl, rfl, .inl ⟨by decide, by decide⟩, _, _, rfl, rfl, rfl, _, rfl, ?_⟩
      refine ifN (by simp) ?_
      refine ⟨_, rfl, _, rfl, _, rfl, _, rfl, _, _, rfl, rfl, mm, _, _, rfl, rfl, ?_⟩
      intro a7 dd7 n7 hd7 _
      refine ⟨_, _, _, _, _, rfl, upd_same, .int _, .int _, .int _, .inl ⟨_, _, _, rfl, rfl, rfl, fun A7 ss7 ee7 => ⟨rfl, ?_⟩⟩⟩
      obtain ⟨t7, m7⟩ := mk_facts T n7 hd7 ss7 ee7
      have SB := SB.trans t7
      refine ⟨a7, _, _, _, rfl, m7, (bw.mono (by decide)), (bh.mono (by decide)), ((bwh.add (Bd.one (by decide))).mono (by decide)), fun v7 hv7 => ?_⟩
      have e7 := hv7.uniq s3
      subst e7
      refine ⟨_, rfl, _, rfl, _, _, rfl, rfl, _, _, rfl, rfl, rfl, _, rfl, ?_⟩
      refine ifN (by simp) ?_
      refine ⟨_, rfl, _, rfl, _, rfl, _, rfl, _, _, rfl, rfl, (cmw (bw.neg.mono (by decide)) (bh.mono (by decide))), _, _, rfl, rfl, ?_⟩
      intro a8 dd8 n8 hd8 _
      refine ⟨_, _, _, _, _, rfl, upd_same, .int _, .int _, .int _, .inl ⟨_, _, _, rfl, rfl, rfl, fun A8 ss8 ee8 => ⟨rfl, ?_⟩⟩⟩
      obtain ⟨t8, m8⟩ := mk_facts T n8 hd8 ss8 ee8
      have SB := SB.trans t8
      refine ⟨a8, _, _, _, rfl, m8, (bw.mono (by decide)), z0, (((bw.neg.mul bh).add (Bd.one (by decide))).mono (by decide)), fun v8 hv8 => ?_⟩
      have e8 := hv8.uniq s4
      subst e8
      have bC := bB.trans (But.of SB)
      have kk := k _ bC (q4.mono (by omega) SB)
      refine ⟨_, rfl, _, rfl, _, _, rfl, rfl, .inl ⟨by decide, by decide⟩, _, _, rfl, rfl, ?_⟩
      have ie : (if decide (V.int (1 + d3) = V.int 1) = true then (1 : Int) else 0) = if 1 + d3 = 1 then 1 else 0 := by simp
      refine ⟨_, rfl, rfl, .inr ⟨_, rfl, _, _, rfl, rfl, .inl ⟨by decide, by decide⟩, _, _, rfl, rfl, rfl, ?_⟩⟩
      rw [ie]
      rw [show (decide (V.int (1 + d3 + 2 * (1 + d + d2) - 2 * if 1 + d3 = 1 then 1 else 0) = V.int (1 + d3 + 2 * (1 + d + d2) - 2 * if 1 + d3 = 1 then 1 else 0))) = true from decide_eq_true rfl]
      exact kk
    · have le : 1 + d3 ≤ 1 + d + d2 := by have := of_decide_eq_false (Bool.eq_false_iff.mpr c); omega
      have s1 := Fewest.side1 (w := 1 + d + d2) (h := 1 + d3) h1 le
      have s2 := Fewest.side2 (w := 1 + d + d2) (h := 1 + d3) h1 le
      have s3 := Fewest.side3 (w := 1 + d + d2) (h := 1 + d3) h1 le
      have s4 := Fewest.side4 (w := 1 + d + d2) (h := 1 + d3) h1 le
      have bw := bw0
      have bh := bh0
      have bwh := bw.mul bh
      have mm := cmw (bw.mono (show 402 ≤ 8000 by decide)) (bh.mono (show 402 ≤ 8000 by decide))
      have SB : Same H4 H4 := Same.refl _
      refine ⟨_, rfl, _, rfl, _, rfl, _, rfl, _, _, rfl, rfl, mm, ?_⟩
      intro a9 dd9 n9 hd9 _
      refine ⟨_, _, _, _, _, rfl, upd_same, .int _, .int _, .int _, .inl ⟨_, _, _, rfl, rfl, rfl, fun A9 ss9 ee9 => ⟨rfl, ?_⟩⟩⟩
      obtain ⟨t9, m9⟩ := mk_facts T n9 hd9 ss9 ee9
      have SB := SB.trans t9
      refine ⟨a9, _, _, _, rfl, m9, (bw.mono (by decide)), (bh.mono (by decide)), (bwh.mono (by decide)), fun v9 hv9 => ?_⟩
      have e9 := hv9.uniq s1.1
      subst e9
      refine ⟨_, rfl, _, rfl, _, _, rfl, rfl, rfl, _, rfl, ?_⟩
      refine ifN (by simp) ?_
      refine ⟨_, rfl, _, rfl, ?_⟩
      intro a10 dd10 n10 hd10 _
      refine ⟨_, _, _, _, _, rfl, upd_same, .int _, .int _, .int _, .inl ⟨_, _, _, rfl, rfl, rfl, fun A10 ss10 ee10 => ⟨rfl, ?_⟩⟩⟩
      obtain ⟨t10, m10⟩ := mk_facts T n10 hd10 ss10 ee10
      have SB := SB.trans t10
      refine ⟨a10, _, _, _, rfl, m10, (bw.mono (by decide)), (bh.mono (by decide)), z0, fun v10 hv10 => ?_⟩
      have e10 := hv10.uniq s1.2
      subst e10
      refine ⟨_, rfl, _, rfl, _, _, rfl, rfl, rfl, _, rfl, ?_⟩
      refine ifN (by simp) ?_
      refine ⟨_, rfl, _, rfl, _, rfl, _, _, rfl, rfl, mm, ?_⟩
      intro a11 dd11 n11 hd11 _
      refine ⟨_, _, _, _, _, rfl, upd_same, .int _, .int _, .int _, .inl ⟨_, _, _, rfl, rfl, rfl, fun A11 ss11 ee11 => ⟨rfl, ?_⟩⟩⟩
      obtain ⟨t11, m11⟩ := mk_facts T n11 hd11 ss11 ee11
      have SB := SB.trans t11
      refine ⟨a11, _, _, _, rfl, m11, (bw.mono (by decide)), z0, (bwh.mono (by decide)), fun v11 hv11 => ?_⟩
      have e11 := hv11.uniq s2
      subst e11
      refine ⟨_, rfl, _, rfl, _, _, rfl, rfl, .inl ⟨by decide, by decide⟩, _, _, rfl, rfl, rfl, _, rfl, ?_⟩
      refine ifN (by simp) ?_
      refine ⟨_, rfl, _, rfl, _, rfl, _, rfl, _, _, rfl, rfl, mm, _, _, rfl, rfl, ?_⟩
      intro a12 dd12 n12 hd12 _
      refine ⟨_, _, _, _, _, rfl, upd_same, .int _, .int _, .int _, .inl ⟨_, _, _, rfl, rfl, rfl, fun A12 ss12 ee12 => ⟨rfl, ?_⟩⟩⟩
      obtain ⟨t12, m12⟩ := mk_facts T n12 hd12 ss12 ee12
      have SB := SB.trans t12
      refine ⟨a12, _, _, _, rfl, m12, (bw.mono (by decide)), (bh.mono (by decide)), ((bwh.add (Bd.one (by decide))).mono (by decide)), fun v12 hv12 => ?_⟩
      have e12 := hv12.uniq s3
      subst e12
      refine ⟨_, rfl, _, rfl, _, _, rfl, rfl, _, _, rfl, rfl, rfl, _, rfl, ?_⟩
      refine ifN (by simp) ?_
      refine ⟨_, rfl, _, rfl, _, rfl, _, rfl, _, _, rfl, rfl, (cmw (bw.neg.mono (by decide)) (bh.mono (by decide))), _, _, rfl, rfl, ?_⟩
      intro a13 dd13 n13 hd13 _
      refine ⟨_, _, _, _, _, rfl, upd_same, .int _, .int _, .int _, .inl ⟨_, _, _, rfl, rfl, rfl, fun A13 ss13 ee13 => ⟨rfl, ?_⟩⟩⟩
      obtain ⟨t13, m13⟩ := mk_facts T n13 hd13 ss13 ee13
      have SB := SB.trans t13
      refine ⟨a13, _, _, _, rfl, m13, (bw.mono (by decide)), z0, (((bw.neg.mul bh).add (Bd.one (by decide))).mono (by decide)), fun v13 hv13 => ?_⟩
      have e13 := hv13.uniq s4
      subst e13
      have bC := bB.trans (But.of SB)
      have kk := k _ bC (q4.mono (by omega) SB)
      refine ⟨_, rfl, _, rfl, _, _, rfl, rfl, .inl ⟨by decide, by decide⟩, _, _, rfl, rfl, ?_⟩
      have ie : (if decide (V.int (1 + d + d2) = V.int 1) = true then (1 : Int) else 0) = if 1 + d + d2 = 1 then 1 else 0 := by simp
      refine ⟨_, rfl, rfl, .inr ⟨_, rfl, _, _, rfl, rfl, .inl ⟨by decide, by decide⟩, _, _, rfl, rfl, rfl, ?_⟩⟩
      rw [ie]
      rw [show (decide (V.int (1 + d + d2 + 2 * (1 + d3) - 2 * if 1 + d + d2 = 1 then 1 else 0) = V.int (1 + d + d2 + 2 * (1 + d3) - 2 * if 1 + d + d2 = 1 then 1 else 0))) = true from decide_eq_true rfl]
      exact kk
end
end AW

set_option linter.all false
set_option maxRecDepth 100000
set_option maxHeartbeats 16000000
namespace AW
open PySem PySem.Spec PyProof.Rows L2
section
variable {P : Program} {w : World} {K : PySem.W.Frag} {mg : Str → Option Value} {base : Heap}
theorem Tp.but {H H' : Hp} {p t : Addr} {g : G} {B : Int} (h : Tp H t g) (hp : Pen H p B) (b : But p H H') : Tp H' t g := by
  obtain ⟨c, ns, st, rr, e1, _⟩ := hp.at_
  exact b.st _ _ (ne_of h e1 (by intro z; cases z)) h
theorem bg_goL {z : Str} {g : G} (hz : Ltr z) (h : Bg 1000 g) : Bg 2000 (goG z g) := by
  obtain ⟨h1, h2, h3⟩ := h
  have o : Bd 1000 1 := Bd.one (by decide)
  rcases hz with rfl | rfl | rfl | rfl
  · rw [goG_e]; exact ⟨(h1.add o).mono (by decide), h2.mono (by decide), h3.mono (by decide)⟩
  · rw [goG_w]; exact ⟨(h1.add o.neg).mono (by decide), h2.mono (by decide), h3.mono (by decide)⟩
  · rw [goG_n, Int.mul_one]; exact ⟨h1.mono (by decide), (h2.add o).mono (by decide), (h3.add h1).mono (by decide)⟩
  · rw [goG_s, Int.mul_one]; exact ⟨h1.mono (by decide), (h2.sub o).mono (by decide), (h3.sub h1).mono (by decide)⟩
def sp_law (T : Tx K mg) : Sp := fun vs H Q E => ∃ (a : Addr) (ns : List Int), vs = [.ref a] ∧ SqL K H a (ns.map V.int) ∧ ns.length ≤ 63 ∧ ∀ H', Q (.bl true) H'
theorem ok_law (T : Tx K mg) : FnOk P w K mg base (L2.CX P w) 9 T.a_law T.d_law P_law (sp_law T) := by
  have G_l_pen : FnOk P w K mg base (L2.CX P w) 1 _ _ _ _ := ok_l_pen T
  have G_l_draw : FnOk P w K mg base (L2.CX P w) 1 _ _ _ _ := ok_l_draw T
  have G_l_pick : FnOk P w K mg base (L2.CX P w) 2 _ _ _ _ := ok_l_pick T
  have G_l_far : FnOk P w K mg base (L2.CX P w) 4 _ _ _ _ := ok_l_far T
  have G_l_place : FnOk P w K mg base (L2.CX P w) 6 _ _ _ _ := ok_l_place T
  have G_l_gone : FnOk P w K mg base (L2.CX P w) 1 _ _ _ _ := ok_l_gone T
  have G_l_times : FnOk P w K mg base (L2.CX P w) 1 _ _ _ _ := ok_l_times T
  have G_l_ways : FnOk P w K mg base (L2.CX P w) 1 _ _ _ _ := ok_l_ways T
  have G_l_is_judged : FnOk P w K mg base (L2.CX P w) 7 _ _ _ _ := ok_l_is_judged T
  have G_l_closed_right : FnOk P w K mg base (L2.CX P w) 6 _ _ _ _ := ok_l_closed_right T
  have G_steps : FnOk P w K mg base (L2.CX P w) 4 _ _ _ _ := ok_steps T
  have G_distance : FnOk P w K mg base (L2.CX P w) 7 _ _ _ _ := ok_distance T
  refine T.F_law.okX sc_law (fun vs H Q E h => ?_) (fun cdv A outer s H vs Q E hr h => ?_)
  · obtain ⟨a, ns, rfl, _⟩ := h
    rfl
  · obtain ⟨a, ns, rfl, hs, hn, k⟩ := h
    have hu := hu_of hr
    refine ⟨_, (pss_cons (ps_set (i := 1) sc_law.nd rfl (.inl rfl) (pe_call G_l_pen (hr.mono (by decide)) (by rfl) T.g_l_pen T.F_l_pen.kp T.b_l_pen .nil passL (pa_cons (pv 0) pa_nil)))
 (pss_cons (ps_for (passes_of rfl) rfl (pi_range1 (by rfl) T.n_range (pa_cons (pe_op op_add pe_int (pe_callB (call_min2 rfl) (by rfl) T.n_min (by decide +kernel) (pa_cons pe_int (pa_cons (pe_callB call_len_seq (by rfl) T.n_len (by decide +kernel) (pa_cons (pv 0) pa_nil)) pa_nil)))) pa_nil)) (pg_name (i := 2) sc_law.nd rfl (.inl rfl))
 (pss_cons (ps_set (i := 3) sc_law.nd rfl (.inr rfl) (pe_call G_l_far (hr.mono (by decide)) (by rfl) T.g_l_far T.F_l_far.kp T.b_l_far .nil passL (pa_cons (pv 1) (pa_cons (pe_call G_l_pick (hr.mono (by decide)) (by rfl) T.g_l_pick T.F_l_pick.kp T.b_l_pick .nil passL (pa_cons (pv 1) (pa_cons (pe_lst (pa_cons pe_int (pa_cons pe_int (pa_cons pe_int (pa_cons pe_int pa_nil))))) pa_nil))) pa_nil))))
 (pss_cons (ps_set (i := 4) sc_law.nd rfl (.inr rfl) (pe_call G_steps (hr.mono (by decide)) (by rfl) T.g_steps T.F_steps.kp T.b_steps .nil passL (pa_cons (pe_call G_l_place (hr.mono (by decide)) (by rfl) T.g_l_place T.F_l_place.kp T.b_l_place .nil passL (pa_cons (pv 3) pa_nil)) pa_nil)))
 (pss_cons (ps_for (passes_of rfl) rfl (pi_list (pe_op op_cat (pe_lst (pa_cons (pv 3) pa_nil)) (pe_lc (own := [("_law_letter", 8)]) (g := gName 8) (by rfl) sc_law.nd (pi_str pe_str) (blkOk_by (own := [("_law_letter", 8)]) (N := N_law) (sc := defScope s_law) (by decide +kernel)) (fun _ _ _ _ _ => pg_name (i := 8) sc_law.nd rfl (Or.inl rfl)) (fun _ _ _ _ _ => pts_nil) (fun _ _ _ _ _ => (pe_call G_l_gone (hr.mono (by decide)) (by rfl) T.g_l_gone T.F_l_gone.kp T.b_l_gone .nil passL (pa_cons (pv 3) (pa_cons (pv 8) (pa_cons pe_int pa_nil)))))))) (pg_name (i := 5) sc_law.nd rfl (.inl rfl))
 (pss_one (ps_if (pt_not (pt_val (pe_call G_l_is_judged (hr.mono (by decide)) (by rfl) T.g_l_is_judged T.F_l_is_judged.kp T.b_l_is_judged .nil passL (pa_cons (pv 5) pa_nil))))
 (pss_one (ps_ret pe_bl))
 pss_nil)))
 (pss_cons (ps_if (pt_cmpR (op_neD hr.units) (pe_lc (tt := (tTest (tOp rNe (tCall (sp_steps T) [] E0 (tCons (tCall (sp_l_place T) [] E0 (tCons (tVar 5) tNil)) tNil)) (tVar 4)))) (own := [("_law_one", 5)]) (g := gName 5) (by rfl) sc_law.nd (pi_list (pe_call G_l_ways (hr.mono (by decide)) (by rfl) T.g_l_ways T.F_l_ways.kp T.b_l_ways .nil passL (pa_cons (pv 3) pa_nil))) (blkOk_by (own := [("_law_one", 5)]) (N := N_law) (sc := defScope s_law) (by decide +kernel)) (fun _ _ _ _ _ => pg_name (i := 5) sc_law.nd rfl (Or.inl rfl)) (fun _ _ _ _ _ => (pts_one (pt_cmpR op_ne (pe_call G_steps (hr.mono (by decide)) (by rfl) T.g_steps T.F_steps.kp T.b_steps .nil passL (pa_cons (pe_call G_l_place (hr.mono (by decide)) (by rfl) T.g_l_place T.F_l_place.kp T.b_l_place .nil passL (pa_cons (pv 5) pa_nil)) pa_nil)) (pv 4) (nomark _)))) (fun _ _ _ _ _ => (pv 5))) (pe_lst pa_nil) (nomark _))
 (pss_one (ps_ret pe_bl))
 pss_nil)
 (pss_cons (ps_set (i := 6) sc_law.nd rfl (.inl rfl) (pe_call G_l_far (hr.mono (by decide)) (by rfl) T.g_l_far T.F_l_far.kp T.b_l_far .nil passL (pa_cons (pv 1) (pa_cons (pe_call G_l_pick (hr.mono (by decide)) (by rfl) T.g_l_pick T.F_l_pick.kp T.b_l_pick .nil passL (pa_cons (pv 1) (pa_cons (pe_lst (pa_cons pe_int (pa_cons pe_int pa_nil))) pa_nil))) pa_nil))))
 (pss_cons (ps_set (i := 7) sc_law.nd rfl (.inl rfl) (pe_call G_steps (hr.mono (by decide)) (by rfl) T.g_steps T.F_steps.kp T.b_steps .nil passL (pa_cons (pe_call G_l_place (hr.mono (by decide)) (by rfl) T.g_l_place T.F_l_place.kp T.b_l_place .nil passL (pa_cons (pe_call G_l_times (hr.mono (by decide)) (by rfl) T.g_l_times T.F_l_times.kp T.b_l_times .nil passL (pa_cons (pv 3) (pa_cons (pv 6) pa_nil))) pa_nil)) pa_nil)))
 (pss_cons (ps_if (PW.pt (pw_or (pt_cmpR op_gt (pv 7) (pe_op op_add (pv 4) (pe_call G_steps (hr.mono (by decide)) (by rfl) T.g_steps T.F_steps.kp T.b_steps .nil passL (pa_cons (pe_call G_l_place (hr.mono (by decide)) (by rfl) T.g_l_place T.F_l_place.kp T.b_l_place .nil passL (pa_cons (pv 6) pa_nil)) pa_nil))) (nomark _)) (pw_or1 (pt_cmpR op_ne (pe_op op_modN (pe_callTy call_int1 (by rfl) T.n_int (by decide +kernel) (pa_cons (pe_op op_sub (pe_op op_add (pv 4) (pe_call G_steps (hr.mono (by decide)) (by rfl) T.g_steps T.F_steps.kp T.b_steps .nil passL (pa_cons (pe_call G_l_place (hr.mono (by decide)) (by rfl) T.g_l_place T.F_l_place.kp T.b_l_place .nil passL (pa_cons (pv 6) pa_nil)) pa_nil))) (pv 7)) pa_nil)) pe_int) pe_int (nomark _)))))
 (pss_one (ps_ret pe_bl))
 pss_nil)
 (pss_cons (ps_if (pt_cmpR op_ne (pe_call G_distance (hr.mono (by decide)) (by rfl) T.g_distance T.F_distance.kp T.b_distance .nil passL (pa_cons (pe_call G_l_place (hr.mono (by decide)) (by rfl) T.g_l_place T.F_l_place.kp T.b_l_place .nil passL (pa_cons (pv 3) pa_nil)) (pa_cons (pe_call G_l_place (hr.mono (by decide)) (by rfl) T.g_l_place T.F_l_place.kp T.b_l_place .nil passL (pa_cons (pe_call G_l_times (hr.mono (by decide)) (by rfl) T.g_l_times T.F_l_times.kp T.b_l_times .nil passL (pa_cons (pv 3) (pa_cons (pv 6) pa_nil))) pa_nil)) pa_nil))) (pe_call G_steps (hr.mono (by decide)) (by rfl) T.g_steps T.F_steps.kp T.b_steps .nil passL (pa_cons (pe_call G_l_place (hr.mono (by decide)) (by rfl) T.g_l_place T.F_l_place.kp T.b_l_place .nil passL (pa_cons (pv 6) pa_nil)) pa_nil)) (nomark _))
 (pss_one (ps_ret pe_bl))
 pss_nil)
 (pss_one (ps_if (PW.pt (pw_or (pt_not (pt_val (pe_call G_l_closed_right (hr.mono (by decide)) (by rfl) T.g_l_closed_right T.F_l_closed_right.kp T.b_l_closed_right .nil passL (pa_cons (pv 1) pa_nil)))) (pw_or1 (pt_not (pt_val (pe_call G_l_is_judged (hr.mono (by decide)) (by rfl) T.g_l_is_judged T.F_l_is_judged.kp T.b_l_is_judged .nil passL (pa_cons (pe_tup (pa_cons pe_int (pa_cons pe_int (pa_cons (pe_call G_l_draw (hr.mono (by decide)) (by rfl) T.g_l_draw T.F_l_draw.kp T.b_l_draw .nil passL (pa_cons (pv 1) (pa_cons pe_int pa_nil))) pa_nil)))) pa_nil)))))))
 (pss_one (ps_ret pe_bl))
 pss_nil)))))))))))
 (pss_one (ps_ret pe_bl)))), ?_⟩
    refine ⟨_, rfl, a, ns, rfl, hs, hn, fun p H1 s1 np q1 => ?_⟩
    refine ⟨_, rfl, a, _, rfl, .inl (hs.ext s1), _, _, rfl, _, _, rfl, rfl, _, rfl, ?_⟩
    rw [List.length_map]
    have hN : 0 ≤ (4 : Int) + (if ((ns.length : Nat) : Int) < 5 then ((ns.length : Nat) : Int) else 5) ∧ (4 : Int) + (if ((ns.length : Nat) : Int) < 5 then ((ns.length : Nat) : Int) else 5) ≤ 9 := by split <;> omega
    generalize (4 : Int) + (if ((ns.length : Nat) : Int) < 5 then ((ns.length : Nat) : Int) else 5) = N at hN ⊢
    refine ⟨by omega, by omega, for_range (n := N.toNat) (fun i σ G => (∃ v2 v3 v4 v5 v6 v7 v8, σ = [some (.ref a), some (.ref p), v2, v3, v4, v5, v6, v7, v8]) ∧ Pen G p (1000 * i)) ⟨⟨none, none, none, none, none, none, none, rfl⟩, (by simpa using q1)⟩ ?_ ?_⟩
    case refine_2 => exact fun σ G _ => k G
    clear hs s1 q1
    rintro i σ Hl hi ⟨⟨v2, v3, v4, v5, v6, v7, v8, rfl⟩, hp⟩
    have hB : (1000 * (i : Int)) ≤ 9000 := by omega
    generalize hBi : 1000 * (i : Int) = B at hB hp
    -- the place
    refine ⟨_, rfl, _, rfl, (by show 4 ≤ sizeLine; decide), fun l nl => ?_⟩
    refine ⟨p, .ref l, _, rfl, hp.mono (Int.le_refl _) (Same.laid nl), by omega, .inl ⟨l, _, rfl, upd_same, (by show 0 < 4; decide), (by show 4 ≤ 1000; decide), fun v H2 hv b2 q2 => ?_⟩⟩
    obtain ⟨n, rfl, n0, n1⟩ : ∃ n : Int, v = .int n ∧ 0 ≤ n ∧ n < 52 := by
      simp only [List.mem_cons, List.mem_nil_iff, or_false] at hv
      rcases hv with rfl | rfl | rfl | rfl
      · exact ⟨0, rfl, by decide, by decide⟩
      · exact ⟨7, rfl, by decide, by decide⟩
      · exact ⟨28, rfl, by decide, by decide⟩
      · exact ⟨49, rfl, by decide, by decide⟩
    refine ⟨p, n, _, rfl, n0, n1, q2, by omega, fun t H3 g b3 e3 bf q3 => ?_⟩
    have bg := bf.bg
    refine ⟨_, rfl, t, g, rfl, e3, fun r H4 s4 n4 p4 => ?_⟩
    refine ⟨r, _, _, _, rfl, p4, bg.1.mono (by decide), bg.2.1.mono (by decide), bg.2.2.mono (by decide), fun here hh => ?_⟩
    have bg2 := bg.mono (show 1000 ≤ 2000 by decide)
    -- the places a step further
    have e4 := s4 _ _ e3
    refine ⟨_, rfl, (by show 1 ≤ sizeLine; decide), fun l1 nl1 => ?_⟩
    have s5 : Same H4 (upd H4 l1 (.lst [.ref t])) := Same.laid nl1
    have e5 : upd H4 l1 (.lst [.ref t]) l1 = some (.lst [.ref t]) := upd_same
    generalize upd H4 l1 (.lst [.ref t]) = H5 at s5 e5 ⊢
    have t5 := s5 _ _ e4
    refine ⟨"enws", rfl, fun D nD => ?_⟩
    refine lc_it (walk_str (z := "enws")) (fun i G' => Same H5 G' ∧ ∃ ts : List Addr, G' D = some (.lst (ts.map V.ref)) ∧ ts.length = i ∧ ∀ u ∈ ts, ∃ g', Tp G' u g' ∧ Bg 2000 g')
      ⟨Same.laid nD, [], upd_same, rfl, (fun u h => by cases h)⟩ (fun _ _ _ _ => trivial) ?_ ?_
    · rintro i x G' G2 hi ⟨z1, ts, z2, z3, z4⟩ ⟨rfl, c, hc, rfl⟩
      obtain ⟨z, hz, hL, ez⟩ := enws hc
      refine ⟨rfl, ?_⟩
      rw [ez]
      refine ⟨_, rfl, _, rfl, t, g, z, rfl, z1 _ _ t5, hL, bg2, fun t6 H6 s6 n6 e6 => ?_⟩
      have bz := bg_goL hL bg
      have D6 := s6 _ _ z2
      refine ⟨_, D6, ?_, ?_, ts ++ [t6], ?_, ?_, ?_⟩
      · rw [List.length_map, z3]
        have : ("enws" : Str).cps.size = 4 := by decide +kernel
        have : 4 < sizeLine := by decide
        omega
      · intro b o h
        have nb : b ≠ D := fun e => by rw [e, nD] at h; cases h
        rw [upd_ne nb]
        exact s6 _ _ (z1 _ _ h)
      · rw [upd_same, List.map_append]; rfl
      · rw [List.length_append, z3]; rfl
      · intro u hu
        have keep : ∀ g', Tp H6 u g' → Tp (upd H6 D (.lst (ts.map V.ref ++ [.ref t6]))) u g' := fun g' h => by
          have := ne_of h D6 (by intro z; cases z)
          show upd H6 D _ u = _
          rw [upd_ne this]
          exact h
        rcases List.mem_append.mp hu with h | h
        · obtain ⟨g', h1, h2⟩ := z4 u h
          exact ⟨g', keep _ (s6 _ _ h1), h2⟩
        · rw [List.mem_singleton.mp h]
          rw [List.mem_singleton.mp h] at keep
          exact ⟨_, keep _ e6, bz⟩
    · rintro H6 ⟨s6, ts, eD, l4, hts⟩
      have h4 : ts.length = 4 := by
        have : ("enws" : Str).cps.size = 4 := by decide +kernel
        omega
      refine ⟨l1, D, _, _, rfl, rfl, s6 _ _ e5, eD, (by rw [List.length_map, h4]; show 5 ≤ sizeLine; decide), fun la nla => ?_⟩
      have s7 : Same H6 (upd H6 la (.lst ([.ref t] ++ ts.map V.ref))) := Same.laid nla
      have e7 : upd H6 la (.lst ([.ref t] ++ ts.map V.ref)) la = some (.lst ([.ref t] ++ ts.map V.ref)) := upd_same
      generalize upd H6 la (.lst ([.ref t] ++ ts.map V.ref)) = H7 at s7 e7 ⊢
      have t7 := s7 _ _ (s6 _ _ t5)
      have all7 : ∀ v ∈ [V.ref t] ++ ts.map V.ref, ∃ u g', v = .ref u ∧ Tp H7 u g' ∧ Bg 2000 g' := fun v hv => by
        rcases List.mem_append.mp hv with h | h
        · exact ⟨t, g, List.mem_singleton.mp h, t7, bg2⟩
        · obtain ⟨u, h1, rfl⟩ := List.mem_map.mp h
          obtain ⟨g', h2, h3⟩ := hts u h1
          exact ⟨u, g', rfl, s7 _ _ h2, h3⟩
      refine ⟨la, rfl, ⟨_, SqL.of e7⟩, for_list (K := K) (a := la) (xs := [.ref t] ++ ts.map V.ref) (fun i' σ G' => (∃ v5', σ = [some (.ref a), some (.ref p), some (.int (0 + ↑i)), some (.ref t), some (.int here), v5', v6, v7, v8]) ∧ Same H7 G') ⟨⟨_, rfl⟩, Same.refl _⟩ (fun _ σ G' _ z => SqL.of (z.2 _ _ e7)) ?_ ?_⟩
      · rintro i' x σ G' hi' ⟨⟨v5', rfl⟩, z1⟩
        obtain ⟨u, g', rfl, h1, h2⟩ := all7 x (List.mem_of_getElem? hi')
        refine ⟨_, rfl, u, g', rfl, z1 _ _ h1, h2, fun G2 z2 => ⟨_, rfl, ifN rfl ?_⟩⟩
        exact ⟨⟨_, rfl⟩, z1.trans z2⟩
      rintro σ H8 ⟨⟨v5', rfl⟩, s8⟩
      have t8 := s8 _ _ t7
      have q8 := q3.mono (B' := B + 71) (by omega) (((((s4.trans s5).trans s6).trans s7).trans s8))
      -- the same at the places of the ways
      refine ⟨_, rfl, t, g, rfl, t8, bg2, fun lw t1 t2 t3 t4' t5' H9 s9 e9 w1 w2 w3 w4 w5 => ⟨lw, rfl, ⟨_, SqL.of e9⟩, fun D2 nD2 => ?_⟩⟩
      have wy := Fewest.ways5 hh
      have bxy : Bd 2000 (g.x * g.y) := (bg.1.mul bg.2.1).mono (by decide)
      have all9 : ∀ v ∈ [V.ref t1, .ref t2, .ref t3, .ref t4', .ref t5'], ∃ u g', v = .ref u ∧ Tp H9 u g' ∧ StG g' here ∧ Bg 3000 g' := fun v hv => by
        have n1 := bg.1.neg.mono (show 1000 ≤ 3000 by decide)
        have n2 := bg.2.1.neg.mono (show 1000 ≤ 3000 by decide)
        have n3 := bg.2.2.neg.mono (show 1000 ≤ 3000 by decide)
        have m3 := bg.mono (show 1000 ≤ 3000 by decide)
        have x1 : Bd 3000 (g.a - g.x * g.y) := ((bg.2.2.mono (by decide)).sub bxy).mono (by decide)
        have x2 : Bd 3000 (g.x * g.y - g.a) := (bxy.sub (bg.2.2.mono (by decide))).mono (by decide)
        simp only [List.mem_cons, List.mem_nil_iff, or_false] at hv
        rcases hv with rfl | rfl | rfl | rfl | rfl
        · exact ⟨_, _, rfl, w1, wy.1, n2, m3.1, x1⟩
        · exact ⟨_, _, rfl, w2, wy.2.1, n1, n2, m3.2.2⟩
        · exact ⟨_, _, rfl, w3, wy.2.2.1, n1, m3.2.1, n3⟩
        · exact ⟨_, _, rfl, w4, wy.2.2.2.1, m3.2.1, m3.1, x2⟩
        · exact ⟨_, _, rfl, w5, wy.2.2.2.2, n1, n2, x2⟩
      refine lc_list (xs := [V.ref t1, .ref t2, .ref t3, .ref t4', .ref t5']) (fun i' G' => Same H9 G' ∧ G' D2 = some (.lst [])) ⟨Same.laid nD2, upd_same⟩ (fun _ G' _ z => SqL.of (z.1 _ _ e9)) ?_ ?_
      · rintro i' x G' hi' ⟨z1, z2⟩
        obtain ⟨u, g', rfl, h1, h2, h3⟩ := all9 x (List.mem_of_getElem? hi')
        refine ⟨rfl, ?_⟩
        refine ⟨_, rfl, u, g', rfl, z1 _ _ h1, fun r' G2 y1 _ y3 => ?_⟩
        refine ⟨r', _, _, _, rfl, y3, h3.1, h3.2.1, h3.2.2, fun m hm => ?_⟩
        have e := hm.uniq h2
        subst e
        exact ⟨_, rfl, rfl, _, rfl, ifN (by simp) ⟨z1.trans y1, y1 _ _ z2⟩⟩
      rintro H10 ⟨s10, e10⟩
      refine ⟨(by show 0 ≤ sizeLine; decide), fun e0 ne0 => ?_⟩
      have s11 : Same H10 (upd H10 e0 (.lst [])) := Same.laid ne0
      refine ⟨.list [], .list [], .lst (SqL.of (s11 _ _ e10)) .nil, .lst (SqL.of upd_same) .nil, rfl, rfl, _, rfl, ?_⟩
      refine ifN rfl ?_
      have t11 : Tp (upd H10 e0 (.lst [])) t g := s11 _ _ (s10 _ _ (s9 _ _ t8))
      have q11 := q8.mono (Int.le_refl _) ((s9.trans s10).trans s11)
      generalize upd H10 e0 (.lst []) = H11 at t11 q11 ⊢
      clear s4 s5 s6 s7 s8 s9 s10 s11 e10 ne0 nD2 nD eD e9 w1 w2 w3 w4 w5 all9 all7 hts e7 e5 t5 t7 t8 q8 nl1 nla
      -- another place
      refine ⟨_, rfl, _, rfl, (by show 2 ≤ sizeLine; decide), fun l2 nl2 => ?_⟩
      have t12 := Tp.but t11 q11 ((But.refl H11).new nl2 (o := .lst [.int 0, .int 28]))
      refine ⟨p, .ref l2, _, rfl, q11.mono (Int.le_refl _) (Same.laid nl2), by omega, .inl ⟨l2, _, rfl, upd_same, (by show 0 < 2; decide), (by show 2 ≤ 1000; decide), fun v H12 hv b12 q12 => ?_⟩⟩
      obtain ⟨n', rfl, n0', n1'⟩ : ∃ n : Int, v = .int n ∧ 0 ≤ n ∧ n < 52 := by
        simp only [List.mem_cons, List.mem_nil_iff, or_false] at hv
        rcases hv with rfl | rfl
        · exact ⟨0, rfl, by decide, by decide⟩
        · exact ⟨28, rfl, by decide, by decide⟩
      have t12' := Tp.but t12 (q11.mono (Int.le_refl _) (Same.laid nl2)) b12
      refine ⟨p, n', _, rfl, n0', n1', q12, by omega, fun u H13 gh b13 eu bfh q13 => ?_⟩
      have t13 := Tp.but t12' q12 b13
      have bh := bfh.bg
      have bh2 := bh.mono (show 1000 ≤ 2000 by decide)
      clear t12 t12' t11 q11 q12 b12 b13 nl2
      -- the product
      have bmul : Bg 1000 (g.mul gh) := ⟨(bf.1.add bfh.1).mono (by decide), (bf.2.1.add bfh.2.1).mono (by decide), ((bf.2.2.add bfh.2.2).add ((bf.1.mul bfh.2.1).mono (show 800 ≤ 901 by decide))).mono (by decide)⟩
      refine ⟨_, rfl, _, rfl, t, u, g, gh, rfl, t13, eu, bg2, bh2, fun t14 H14 s14 n14 e14 => ?_⟩
      refine ⟨t14, _, rfl, e14, fun r15 H15 s15 n15 p15 => ?_⟩
      refine ⟨r15, _, _, _, rfl, p15, bmul.1.mono (by decide), bmul.2.1.mono (by decide), bmul.2.2.mono (by decide), fun f hf => ?_⟩
      have u15 := s15 _ _ (s14 _ _ eu)
      have t15 := s15 _ _ (s14 _ _ t13)
      refine ⟨_, rfl, _, rfl, _, rfl, u, gh, rfl, u15, fun r16 H16 s16 n16 p16 => ?_⟩
      refine ⟨r16, _, _, _, rfl, p16, bh.1.mono (by decide), bh.2.1.mono (by decide), bh.2.2.mono (by decide), fun o ho => ?_⟩
      have tri := Fewest.St.triangle hh ho hf
      have pari := Fewest.St.parity hh ho hf
      refine ⟨_, _, rfl, rfl, _, _, rfl, rfl, _, rfl, ?_⟩
      refine ifN (decide_eq_false (by omega)) ?_
      refine ⟨_, rfl, _, rfl, u, gh, rfl, s16 _ _ u15, fun r17 H17 s17 n17 p17 => ?_⟩
      refine ⟨r17, _, _, _, rfl, p17, bh.1.mono (by decide), bh.2.1.mono (by decide), bh.2.2.mono (by decide), fun o2 ho2 => ?_⟩
      have e2 := ho2.uniq ho
      subst e2
      have pf : (here + o2 - f).fmod 2 = 0 := by rw [Int.fmod_eq_emod_of_nonneg _ (by decide)]; exact pari
      refine ⟨_, _, rfl, rfl, _, rfl, _, _, rfl, rfl, .inl ⟨_, rfl, _, _, rfl, rfl, (by show (2 : Int) ≠ 0; decide), rfl, _, rfl, ?_⟩⟩
      refine ifN (by show (!decide (V.int ((here + o2 - f).fmod 2) = V.int 0)) = false; rw [pf]; rfl) ?_
      have t17 := s17 _ _ (s16 _ _ t15)
      have u17 := s17 _ _ (s16 _ _ u15)
      -- the distance
      refine ⟨_, rfl, t, g, rfl, t17, fun r18 H18 s18 n18 p18 => ?_⟩
      refine ⟨_, rfl, _, rfl, t, u, g, gh, rfl, s18 _ _ t17, s18 _ _ u17, bg2, bh2, fun t19 H19 s19 n19 e19 => ?_⟩
      refine ⟨t19, _, rfl, e19, fun r20 H20 s20 n20 p20 => ?_⟩
      refine ⟨r18, r20, _, _, _, _, _, _, rfl, (p18.mono s19).mono s20, p20, bg.1, bg.2.1, bg.2.2, bmul.1, bmul.2.1, bmul.2.2, fun dn H21 s21 hd => ?_⟩
      have u21 := s21 _ _ (s20 _ _ (s19 _ _ (s18 _ _ u17)))
      refine ⟨_, rfl, u, gh, rfl, u21, fun r22 H22 s22 n22 p22 => ?_⟩
      refine ⟨r22, _, _, _, rfl, p22, bh.1.mono (by decide), bh.2.1.mono (by decide), bh.2.2.mono (by decide), fun o3 ho3 => ?_⟩
      have ed : dn = o3 := by
        refine Fewest.St.uniq ?_ ho3
        have a1 : -g.x + (g.mul gh).x = gh.x := by show -g.x + (g.x + gh.x) = gh.x; omega
        have a2 : -g.y + (g.mul gh).y = gh.y := by show -g.y + (g.y + gh.y) = gh.y; omega
        have a3 : g.x * g.y - g.a + (g.mul gh).a + -g.x * (g.mul gh).y = gh.a := by show g.x * g.y - g.a + (g.a + gh.a + g.x * gh.y) + -g.x * (g.y + gh.y) = gh.a; grind
        rw [a1, a2, a3] at hd
        exact hd
      subst ed
      refine ⟨rfl, _, rfl, ?_⟩
      refine ifN (by simp) ?_
      -- closed walks
      have q22 := q13.mono (B' := B + 150) (by omega) ((((((((s14.trans s15).trans s16).trans s17).trans s18).trans s19).trans s20).trans s21).trans s22)
      refine ⟨_, rfl, p, _, rfl, q22, by omega, fun H23 b23 q23 => ⟨_, rfl, ifN rfl ?_⟩⟩
      refine ⟨_, rfl, p, 3, _, rfl, by decide, by decide, q23, by omega, fun d H24 hd24 b24 q24 => ?_⟩
      refine ⟨(by show 3 ≤ sizeLine; decide), fun tz ntz => ?_⟩
      have b0 : Bd 2000 0 := bd_of_lt (by decide) (k := 1) (by decide) Nat.one_le_two_pow
      have bd3 : Bd 2000 d := (bd_of_lt hd24.1 (k := 3) (m := 2) (by have := hd24.2; omega) (by decide)).mono (by decide)
      refine ⟨tz, ⟨0, 0, d⟩, rfl, upd_same, ⟨b0, b0, bd3⟩, fun H25 s25 => ⟨_, rfl, ifN rfl ?_⟩⟩
      exact ⟨⟨_, _, _, _, _, _, _, rfl⟩, q24.mono (by rw [← hBi]; omega) ((Same.laid ntz).trans s25)⟩
end
end AW

namespace AW
open PySem PySem.Spec PyProof.Rows L2
/-- the law, called as the statement calls it -/
theorem k12_at {l : PySem.W.OpenLaw} {w : World} {K : PySem.W.Frag} {mg : Str → Option Value} {fa : Addr} {h : Heap} (T : Tx K mg) (ea : T.a_law = fa) :
    LamX.LawAtS l w K (L2.CX l.prog w) 9 63 "_law_script" mg fa h := by
  subst ea
  refine ⟨T.d_law, [], sp_law T, (fun p hp => by cases hp), (fun p hp => by cases hp), (fun p hp => by cases hp), fun s u => ?_, fun H a ns hl _ hH hS => ?_, fun base KB hm hb => ?_⟩
  · obtain ⟨oc, od, kV, doc, pm, an, cdv, ct, osl, e, lk, hcd⟩ := T.F_law.ex
    rw [e]
    exact BindsTo.of_eq rfl
  · exact ⟨a, ns, rfl, hS, hl, fun H' => rfl⟩
  · exact ok_law T
end AW
open PySem PySem.W PyProof.Rows in
set_option maxRecDepth 100000 in
set_option maxHeartbeats 0 in
theorem PySem.Challenge.cw_areawalks_k12_whole_steps_judged_holds : PySem.Challenge.rw_areawalks_k12_whole_steps_judged.Holds := by
  w_on; o_law; k_head; (case hw => w_witness2)
  k_fill
  refine LamX.walk_ofTs (l := PySem.Challenge.rw_areawalks_k12_whole_steps_judged) (n := 63) (k := 9) (x := "_law_script") (CX := fun w => L2.CX (PySem.Challenge.rw_areawalks_k12_whole_steps_judged).prog w) rfl (by decide) rfl ⟨rfl, by decide, by decide⟩ (fun w h Y => PySem.W.kIn_of Y) ?F ?G
  case G =>
    intro w H s e s' h
    obtain ⟨_, _, _, _, _, _, _, _, _, _, _, _, z⟩ := h
    exact z.elim
  case F =>
    intro w mg fa h Y KX G hmg
    refine' AW.tx_mk  KX G hmg ?g__wall ?l__wall ?c__wall ?k__wall ?g_is_integer ?l_is_integer ?c_is_integer ?k_is_integer ?g_check_integer ?l_check_integer ?c_check_integer ?k_check_integer ?g_fewest_steps ?l_fewest_steps ?c_fewest_steps ?k_fewest_steps ?g_quotient_up ?l_quotient_up ?c_quotient_up ?k_quotient_up ?g_half_outline ?l_half_outline ?c_half_outline ?k_half_outline ?g_check_place ?l_check_place ?c_check_place ?k_check_place ?g_steps ?l_steps ?c_steps ?k_steps ?g_distance ?l_distance ?c_distance ?k_distance ?g_l_pen ?l_l_pen ?c_l_pen ?k_l_pen ?g_l_draw ?l_l_draw ?c_l_draw ?k_l_draw ?g_l_pick ?l_l_pick ?c_l_pick ?k_l_pick ?g_l_great ?l_l_great ?c_l_great ?k_l_great ?g_l_signed ?l_l_signed ?c_l_signed ?k_l_signed ?g_l_gone ?l_l_gone ?c_l_gone ?k_l_gone ?g_l_place ?l_l_place ?c_l_place ?k_l_place ?g_l_times ?l_l_times ?c_l_times ?k_l_times ?g_l_far ?l_l_far ?c_l_far ?k_l_far ?g_l_is_judged ?l_l_is_judged ?c_l_is_judged ?k_l_is_judged ?g_l_ways ?l_l_ways ?c_l_ways ?k_l_ways ?g_l_closed_right ?l_l_closed_right ?c_l_closed_right ?k_l_closed_right ?g_law ?l_law ?c_law ?k_law ?g_C_WalkError ?sa_WalkError ?ex_WalkError ?ty_WalkError ?kc_WalkError ?ga_WalkError ?gg_WalkError ?hd_WalkError ?ic_WalkError ?x_WalkError ?g_C_BadNumber ?m_BadNumber_init ?i_BadNumber_init ?l_BadNumber_init ?c_BadNumber_init ?k_BadNumber_init ?sa_BadNumber ?ex_BadNumber ?ty_BadNumber ?kc_BadNumber ?ga_BadNumber ?gg_BadNumber ?hd_BadNumber ?ic_BadNumber ?x_BadNumber ?na_BadNumber_value ?g_C_BadPlace ?m_BadPlace_init ?i_BadPlace_init ?l_BadPlace_init ?c_BadPlace_init ?k_BadPlace_init ?sa_BadPlace ?ex_BadPlace ?ty_BadPlace ?kc_BadPlace ?ga_BadPlace ?gg_BadPlace ?hd_BadPlace ?ic_BadPlace ?x_BadPlace ?na_BadPlace_value ?g_C_Place ?pg_Place ?hd_Place ?po_Place ?sa_Place ?ca_Place ?cm_Place ?na_Place_x ?na_Place_y ?na_Place_area ?m_Place_init ?i_Place_init ?l_Place_init ?c_Place_init ?k_Place_init ?mk_Place ?kc_Place ?m_Place_eq ?i_Place_eq ?l_Place_eq ?c_Place_eq ?k_Place_eq ?ne_Place ?m_Place_mul ?i_Place_mul ?l_Place_mul ?c_Place_mul ?k_Place_mul ?sf_Place_Mult ?ro_Place_Mult ?m_Place_invert ?i_Place_invert ?l_Place_invert ?c_Place_invert ?k_Place_invert ?m_Place_power ?i_Place_power ?l_Place_power ?c_Place_power ?k_Place_power ?m_Place_is_home ?i_Place_is_home ?l_Place_is_home ?c_Place_is_home ?k_Place_is_home ?m_Place_lifted ?i_Place_lifted ?l_Place_lifted ?c_Place_lifted ?k_Place_lifted ?m_Place_twist ?i_Place_twist ?l_Place_twist ?c_Place_twist ?k_Place_twist ?cn ?ct ?io_Place_int ?io_Place_bool ?is_NoneType_Place ?sb_NoneType_Place ?is_bool_Place ?sb_bool_Place ?is_int_Place ?sb_int_Place ?is_str_Place ?sb_str_Place ?is_list_Place ?sb_list_Place ?is_tuple_Place ?sb_tuple_Place ?is_dict_Place ?sb_dict_Place ?n_abs ?n_bool ?n_int ?n_isinstance ?n_len ?n_list ?n_max ?n_min ?n_range ?mi_isqrt ?kk
    (case g__wall => k_is)
    (case l__wall => k_is)
    (case c__wall => k_is)
    (case k__wall => k_is)
    (case g_is_integer => k_is)
    (case l_is_integer => k_is)
    (case c_is_integer => k_is)
    (case k_is_integer => k_is)
    (case g_check_integer => k_is)
    (case l_check_integer => k_is)
    (case c_check_integer => k_is)
    (case k_check_integer => k_is)
    (case g_fewest_steps => k_is)
    (case l_fewest_steps => k_is)
    (case c_fewest_steps => k_is)
    (case k_fewest_steps => k_is)
    (case g_quotient_up => k_is)
    (case l_quotient_up => k_is)
    (case c_quotient_up => k_is)
    (case k_quotient_up => k_is)
    (case g_half_outline => k_is)
    (case l_half_outline => k_is)
    (case c_half_outline => k_is)
    (case k_half_outline => k_is)
    (case g_check_place => k_is)
    (case l_check_place => k_is)
    (case c_check_place => k_is)
    (case k_check_place => k_is)
    (case g_steps => k_is)
    (case l_steps => k_is)
    (case c_steps => k_is)
    (case k_steps => k_is)
    (case g_distance => k_is)
    (case l_distance => k_is)
    (case c_distance => k_is)
    (case k_distance => k_is)
    (case g_l_pen => k_is)
    (case l_l_pen => k_is)
    (case c_l_pen => k_is)
    (case k_l_pen => k_is)
    (case g_l_draw => k_is)
    (case l_l_draw => k_is)
    (case c_l_draw => k_is)
    (case k_l_draw => k_is)
    (case g_l_pick => k_is)
    (case l_l_pick => k_is)
    (case c_l_pick => k_is)
    (case k_l_pick => k_is)
    (case g_l_great => k_is)
    (case l_l_great => k_is)
    (case c_l_great => k_is)
    (case k_l_great => k_is)
    (case g_l_signed => k_is)
    (case l_l_signed => k_is)
    (case c_l_signed => k_is)
    (case k_l_signed => k_is)
    (case g_l_gone => k_is)
    (case l_l_gone => k_is)
    (case c_l_gone => k_is)
    (case k_l_gone => k_is)
    (case g_l_place => k_is)
    (case l_l_place => k_is)
    (case c_l_place => k_is)
    (case k_l_place => k_is)
    (case g_l_times => k_is)
    (case l_l_times => k_is)
    (case c_l_times => k_is)
    (case k_l_times => k_is)
    (case g_l_far => k_is)
    (case l_l_far => k_is)
    (case c_l_far => k_is)
    (case k_l_far => k_is)
    (case g_l_is_judged => k_is)
    (case l_l_is_judged => k_is)
    (case c_l_is_judged => k_is)
    (case k_l_is_judged => k_is)
    (case g_l_ways => k_is)
    (case l_l_ways => k_is)
    (case c_l_ways => k_is)
    (case k_l_ways => k_is)
    (case g_l_closed_right => k_is)
    (case l_l_closed_right => k_is)
    (case c_l_closed_right => k_is)
    (case k_l_closed_right => k_is)
    (case g_law => k_is)
    (case l_law => k_is)
    (case c_law => k_is)
    (case k_law => k_is)
    (case g_C_WalkError => k_is)
    (case sa_WalkError => k_is)
    (case ex_WalkError => k_is)
    (case ty_WalkError => k_is)
    (case kc_WalkError => k_is)
    (case ga_WalkError => k_is)
    (case gg_WalkError => k_is)
    (case hd_WalkError => k_is)
    (case ic_WalkError => k_is)
    (case x_WalkError => k_is)
    (case g_C_BadNumber => k_is)
    (case m_BadNumber_init => k_is)
    (case i_BadNumber_init => k_is)
    (case l_BadNumber_init => k_is)
    (case c_BadNumber_init => k_is)
    (case k_BadNumber_init => k_is)
    (case sa_BadNumber => k_is)
    (case ex_BadNumber => k_is)
    (case ty_BadNumber => k_is)
    (case kc_BadNumber => k_is)
    (case ga_BadNumber => k_is)
    (case gg_BadNumber => k_is)
    (case hd_BadNumber => k_is)
    (case ic_BadNumber => k_is)
    (case x_BadNumber => k_is)
    (case na_BadNumber_value => k_is)
    (case g_C_BadPlace => k_is)
    (case m_BadPlace_init => k_is)
    (case i_BadPlace_init => k_is)
    (case l_BadPlace_init => k_is)
    (case c_BadPlace_init => k_is)
    (case k_BadPlace_init => k_is)
    (case sa_BadPlace => k_is)
    (case ex_BadPlace => k_is)
    (case ty_BadPlace => k_is)
    (case kc_BadPlace => k_is)
    (case ga_BadPlace => k_is)
    (case gg_BadPlace => k_is)
    (case hd_BadPlace => k_is)
    (case ic_BadPlace => k_is)
    (case x_BadPlace => k_is)
    (case na_BadPlace_value => k_is)
    (case g_C_Place => k_is)
    (case pg_Place => k_is)
    (case hd_Place => k_is)
    (case po_Place => k_is)
    (case sa_Place => k_is)
    (case ca_Place => k_is)
    (case cm_Place => k_is)
    (case na_Place_x => k_is)
    (case na_Place_y => k_is)
    (case na_Place_area => k_is)
    (case m_Place_init => k_is)
    (case i_Place_init => k_is)
    (case l_Place_init => k_is)
    (case c_Place_init => k_is)
    (case k_Place_init => k_is)
    (case mk_Place => k_is)
    (case kc_Place => k_is)
    (case m_Place_eq => k_is)
    (case i_Place_eq => k_is)
    (case l_Place_eq => k_is)
    (case c_Place_eq => k_is)
    (case k_Place_eq => k_is)
    (case ne_Place => k_is)
    (case m_Place_mul => k_is)
    (case i_Place_mul => k_is)
    (case l_Place_mul => k_is)
    (case c_Place_mul => k_is)
    (case k_Place_mul => k_is)
    (case sf_Place_Mult => k_is)
    (case ro_Place_Mult => k_is)
    (case m_Place_invert => k_is)
    (case i_Place_invert => k_is)
    (case l_Place_invert => k_is)
    (case c_Place_invert => k_is)
    (case k_Place_invert => k_is)
    (case m_Place_power => k_is)
    (case i_Place_power => k_is)
    (case l_Place_power => k_is)
    (case c_Place_power => k_is)
    (case k_Place_power => k_is)
    (case m_Place_is_home => k_is)
    (case i_Place_is_home => k_is)
    (case l_Place_is_home => k_is)
    (case c_Place_is_home => k_is)
    (case k_Place_is_home => k_is)
    (case m_Place_lifted => k_is)
    (case i_Place_lifted => k_is)
    (case l_Place_lifted => k_is)
    (case c_Place_lifted => k_is)
    (case k_Place_lifted => k_is)
    (case m_Place_twist => k_is)
    (case i_Place_twist => k_is)
    (case l_Place_twist => k_is)
    (case c_Place_twist => k_is)
    (case k_Place_twist => k_is)
    (case cn => k_is)
    (case ct => k_is)
    (case io_Place_int => kit_is)
    (case io_Place_bool => kit_is)
    (case is_NoneType_Place => kit_is)
    (case sb_NoneType_Place => k_is)
    (case is_bool_Place => kit_is)
    (case sb_bool_Place => k_is)
    (case is_int_Place => kit_is)
    (case sb_int_Place => k_is)
    (case is_str_Place => kit_is)
    (case sb_str_Place => k_is)
    (case is_list_Place => kit_is)
    (case sb_list_Place => k_is)
    (case is_tuple_Place => kit_is)
    (case sb_tuple_Place => k_is)
    (case is_dict_Place => kit_is)
    (case sb_dict_Place => k_is)
    (case n_abs => k_is)
    (case n_bool => k_is)
    (case n_int => k_is)
    (case n_isinstance => k_is)
    (case n_len => k_is)
    (case n_list => k_is)
    (case n_max => k_is)
    (case n_min => k_is)
    (case n_range => k_is)
    (case mi_isqrt => k_is)
    (case kk =>
      intro T ea
      exact AW.k12_at T ea)
