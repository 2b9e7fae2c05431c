import PyProof.Rows.All
import Wide.All
import OpenK.AllK
import Wide.FinOn
import PyProof.InstEq
import HandS.ForMost
import HandS.IsInst
import HandS.OwnEq
import HandS.SlotsOwn
import HandS.NamedTupSort
import HandS.Exc
import HandS.TryMany
import HandS.ExcField
import HandS.WordsExc
import HandS.ExcInit
import KE.RegKIsAll
import KE.RegKTryMore
import KE.KNestM
import HandS.MakeKw
import HandS.Defaults
import HandS.Wide
import KE.KEqSeq
import HandS.Style
import HandS.Lambda
import HandS.MakeKwOnly
import HandS.EndTab
import PySem.Challenge.RW_areawalks_k02_places
set_option Elab.async false
set_option linter.all false
set_option maxRecDepth 100000
set_option maxHeartbeats 4000000
/-! own operators of an instance, whatever stands on the right -/
namespace AWR
open PySem PySem.W PyProof.Rows Builtin
section
variable {prog : Program} {w : World} {A : Around} {E : Value → Shared → Prop} {s : Shared} {K : Frag} {x C f : Addr} {ox : Obj} {oD : Option Obj} {b tb : Value}
/-- x != b by object.__ne__, the own __eq__ behind it -/
theorem one_ne {Q : Value → Shared → Prop} (hu : A.units + 1 < cLine) (X : K.In s.heap) (iv : InstAt s.heap x ox C oD)
    (hne : findIn K (.ref C) "__ne__" = some (some (.builtin "object.__ne__"))) (hm : mroIn K C (.type "object") = some true)
    (hs : findIn K (.ref C) "__eq__" = some (some (.ref f))) (hf : isFn K (.ref f) = true)
    (h : wpAny (model prog w) A.in1 (call (.ref f) [.ref x, b]) (fun v s' => ∃ r, v = .bool r ∧ Q (.bool (!r)) s') E s) :
    wpAny (model prog w) A (tryCompare (.ref x) "__ne__" b) (fun r s' => ∃ v, r = some v ∧ Q v s') E s := by
  simp only [tryCompare]
  have lookN : Looks (model prog w) s.heap (specialOf (.ref x) "__ne__") (some (.builtin "object.__ne__")) := fun A Q E s' k q => wpAny_bind ((iv.type.keeps k).here ((looks_findIn (X.keeps k) hne).here q))
  have L2 : Looks (model prog w) s.heap (isInstance (.ref x) (.type "object")) true := iv.type.andThen (looks_mroIn X hm)
  refine wpAny_bind (NtL.csib lookN (by kernel_rfl) ?_)
  refine wpAny_call (codeAny_call_builtin (by decide +kernel) F.cmpEntry_ne (check_slot F.cmpKind_ne F.cmpSplit_ne L2 (F.cmpArgs_ne _ _) ?_))
  unfold Builtin.«object.__ne__»
  repeat (first
    | with_reducible refine wpAny_cRoomFor hu ?_
    | (refine wpAny_bind (m := callSpecialIfBound? (.ref x) (Str.ofString "__eq__") [b]) (ifBound_K X iv hs hf (wpAny_mono h (fun r s' hr => by
          obtain ⟨q, rfl, kq⟩ := hr
          repeat (first | exact ⟨_, rfl, wpAny_pure ⟨_, rfl, kq⟩⟩ | exact wpAny_pure ⟨_, rfl, kq⟩ | exact wpAny_truthy_bool ⟨_, rfl, kq⟩ | (refine wpAny_bind (m := truthy (.bool _)) (wpAny_truthy_bool ?_)) | wp_step)) fun _ _ e => e)))
    | wp_step)
theorem ne_K {Q : Value → Shared → Prop} (hu : A.units + 1 < cLine) (X : K.In s.heap) (iv : InstAt s.heap x ox C oD) (hb : Looks (model prog w) s.heap (typeOf b) tb) (hn : notFirst K C tb = true)
    (hne : findIn K (.ref C) "__ne__" = some (some (.builtin "object.__ne__"))) (hm : mroIn K C (.type "object") = some true)
    (hs : findIn K (.ref C) "__eq__" = some (some (.ref f))) (hf : isFn K (.ref f) = true)
    (h : wpAny (model prog w) A.in1 (call (.ref f) [.ref x, b]) (fun v s' => ∃ r, v = .bool r ∧ Q (.bool (!r)) s') E s) : wpAny (model prog w) A (richCompare .NotEq (.ref x) b) Q E s := by
  have cmp1 := one_ne (b := b) (Q := Q) hu X iv hne hm hs hf h
  unfold richCompare
  simp only [oneThing_ref]
  refine wpAny_holding (wpAny_bind (wpAny_cRoomFor (Nat.lt_of_succ_lt hu) ?_))
  refine wpAny_bind (iv.type.here (wpAny_bind (hb.here ?_)))
  split
  · rename_i q
    have e : subIn K tb (.ref C) = some false := by
      rcases Bool.or_eq_true_iff.mp hn with e | e
      · rw [beq_iff_eq.mp e] at q; simp at q
      · exact beq_iff_eq.mp e
    refine wpAny_bind ((looks_subIn X e).here ?_)
    simp only [Bool.false_eq_true, if_false]
    refine wpAny_bind (wpAny_mono cmp1 (fun r s' z => ?_) fun _ _ e => e)
    obtain ⟨v, rfl, kq⟩ := z
    exact wpAny_pure kq
  · refine wpAny_bind (wpAny_pure ?_)
    simp only [Bool.false_eq_true, if_false]
    refine wpAny_bind (wpAny_mono cmp1 (fun r s' z => ?_) fun _ _ e => e)
    obtain ⟨v, rfl, kq⟩ := z
    exact wpAny_pure kq
end
end AWR

set_option linter.all false
set_option maxRecDepth 100000
set_option maxHeartbeats 4000000
namespace AWR
open PySem PySem.W PyProof.Rows Builtin
section
variable {prog : Program} {w : World} {A : Around} {E : Value → Shared → Prop} {s : Shared} {K : Frag} {x C f : Addr} {ox : Obj} {od : Option Obj} {b tb : Value}
theorem tryM {nm : Str} {Q : Option Value → Shared → Prop} (X : K.In s.heap) (I : InstAt s.heap x ox C od) (hs : findIn K (.ref C) nm = some (some (.ref f))) (hf : isFn K (.ref f) = true)
    (h : wpAny (model prog w) A (call (.ref f) [.ref x, b]) (W.CmpBack fun v => Q (some v)) E s) : wpAny (model prog w) A (tryMethod (.ref x) nm b) Q E s := by
  unfold tryMethod
  refine wpAny_bind (special_fn X I hs (beq_iff_eq.mp hf) (wpAny_mono h (fun v s' hv => ?_) fun _ _ e => e))
  cases v <;> first | exact hv.elim | exact wpAny_pure hv
theorem fills_ty {M : Model} {h : Heap} {n nm : String} {r1 r2 : Option Value} (X : K.In h) (h1 : findIn K (.type n) (PySem.dunder nm) = some r1) (h2 : findIn K (.type n) (PySem.dunderR nm) = some r2) :
    Looks M h (fillsNumberSlot (.type n) nm) ((r1.isSome && !isSeqSlot r1) || (r2.isSome && !isSeqSlot r2)) := by
  unfold fillsNumberSlot
  exact (looks_findIn X h1).andThen ((looks_findIn X h2).andThen .now)
theorem inPy {M : Model} {h : Heap} {nm : String} (X : K.In h) (h1 : findIn K (.ref C) (PySem.dunder nm) = some (some (.ref f))) (h2 : findIn K (.ref C) (PySem.dunderR nm) = some none) :
    Looks M h (numberSlotInPython (.ref C) nm) true := by
  unfold numberSlotInPython
  refine (looks_findIn X h1).andThen ?_
  refine Looks.andThen (a := true) .now ?_
  refine (looks_findIn X h2).andThen ?_
  refine Looks.andThen (a := false) .now ?_
  exact .now
theorem binop_ty {op : Operator} {n : String} {r1 r2 : Option Value} {Q : Value → Shared → Prop} (X : K.In s.heap) (I : InstAt s.heap x ox C od) (hb : Looks (model prog w) s.heap (typeOf b) (.type n)) (hc : selfFirst K C = true)
    (hs : findIn K (.ref C) (PySem.dunder op.info.2) = some (some (.ref f))) (hr : findIn K (.ref C) (PySem.dunderR op.info.2) = some none) (hf : isFn K (.ref f) = true)
    (h1 : findIn K (.type n) (PySem.dunder op.info.2) = some r1) (h2 : findIn K (.type n) (PySem.dunderR op.info.2) = some r2) (hsub : subIn K (.type n) (.ref C) = some false)
    (h : wpAny (model prog w) A (call (.ref f) [.ref x, b]) (W.CmpBack Q) E s) : wpAny (model prog w) A (binaryOp op (.ref x) b) Q E s := by
  obtain ⟨cd, hcd, hm⟩ := any_some hc
  obtain ⟨rest, hm⟩ : ∃ rest, cd.mro = .ref C :: rest := by
    cases q : cd.mro with
    | nil => rw [q] at hm; cases hm
    | cons a r => rw [q] at hm; exact ⟨r, by rw [List.head?_cons] at hm; cases (beq_iff_eq.mp hm); rfl⟩
  unfold binaryOp
  refine wpAny_holding (wpAny_bind ?_)
  unfold binaryOp1
  refine wpAny_bind (I.type.here (wpAny_bind (hb.here (wpAny_bind ((fills_K X hcd hm hs).here ?_)))))
  rw [if_neg (by simp)]
  refine wpAny_bind ((fills_ty X h1 h2).here ?_)
  have last : wpAny (model prog w) A (tryMethod (.ref x) (PySem.dunder op.info.2) b) (fun r s' => ∃ v, r = some v ∧ Q v s') E s := tryM X I hs hf (wpAny_mono h (fun v s' hv => by cases v <;> first | exact hv.elim | exact ⟨_, rfl, hv⟩) fun _ _ e => e)
  cases hR : ((r1.isSome && !isSeqSlot r1) || (r2.isSome && !isSeqSlot r2)) with
  | false =>
    simp only [Bool.and_false, Bool.false_eq_true, if_false, Bool.false_and]
    refine wpAny_bind (wpAny_pure ?_)
    simp only [Bool.false_eq_true, if_false, if_true]
    refine wpAny_bind (m := tryMethod (.ref x) _ b) (wpAny_mono last (fun r s' z => ?_) fun _ _ e => e)
    obtain ⟨v, rfl, hq⟩ := z
    exact wpAny_pure (wpAny_pure hq)
  | true =>
    simp only [Bool.and_true, Bool.and_self, if_true]
    refine wpAny_bind ((looks_subIn X hsub).here ?_)
    simp only [Bool.false_eq_true, if_false]
    simp only [Bool.not_false, if_true]
    refine wpAny_bind ((inPy X hs hr).here ?_)
    simp only [if_true]
    refine wpAny_bind (m := numberSlotInPython (.type n) _) ?_
    refine wpAny_pure ?_
    simp only [Bool.not_false, if_true]
    refine wpAny_bind ((looks_findIn X h2).here ?_)
    refine wpAny_bind (m := tryMethod (.ref x) _ b) (wpAny_mono last (fun r s' z => ?_) fun _ _ e => e)
    obtain ⟨v, rfl, hq⟩ := z
    exact wpAny_pure (wpAny_pure hq)
end
end AWR

set_option linter.all false
set_option maxRecDepth 100000
set_option maxHeartbeats 4000000
namespace AW
open PySem PySem.Spec PyProof.Rows L2
section
variable {X : Cx} {CX : CXT} {k : Nat} {C f : Addr} {fd : FuncData} {ps : List Str} {sp : Sp} {E : XK}
/-- a def of the text runs, at some depth -/
theorem run_in {pins : List (Addr × Obj)} {σ : L2.St} {H : Hp} {s : Shared} {Q : VK} {us : List Value} {vs : List V} {A : Around} (F : FnOk X.prog X.w X.K X.mg X.base CX k f fd ps sp) (hr : Room k A) (fr : A.frames = X.A.frames) (hb : Binds X.K fd ps [])
    (hx : Passes CX X E) (iv : Inv X pins σ H s) (r : Vals vs us) (h : sp vs H Q E) : wpAny (model X.prog X.w) A (call (.ref f) us) (EP X pins σ Q) X.xe s := by
  have hl : (us ++ []).length = ps.length := by rw [List.append_nil, ← r.length]; exact F.len _ _ _ _ h
  have e0 : Env0 X.prog X.w X.K X.mg X.base A X.stack s H := by
    have e := iv.env0
    exact ⟨by rw [fr]; exact e.frames, e.mod, e.bs, e.bsz, e.funs, e.frf, e.hok, e.bare⟩
  refine wpAny_call (codeAny_mono (F.run A X.stack s H ⟨us, []⟩ us vs Q E hr e0 (by simpa using hb s us iv.kIn hl) r h) fun r s' kq => ?_)
  cases r with
  | error e => exact hx pins σ H s e s' iv kq
  | ok fl =>
    cases fl with
    | ret u => exact iv.after kq
    | next => exact False.elim kq
    | brk => exact False.elim kq
    | cont => exact False.elim kq
theorem rr (a : Addr) : L2.RelV (.ref a) (.ref a) := rfl
theorem in1_frames (A : Around) : A.in1.frames = A.frames := rfl
/-- the type of a value, read -/
theorem ty_looks {x : V} {u t : Value} {pins : List (Addr × Obj)} {σ : L2.St} {H : Hp} {s : Shared} (iv : Inv X pins σ H s) (rx : RelV x u) (ty : TyX X.K H x t) : PySem.W.Looks (model X.prog X.w) s.heap (typeOf u) t := by
  obtain ⟨P, Z, p, hx⟩ := kit_of iv rx ty
  exact Z.ty _ _ iv.kIn p
/-- what the class's == (own __eq__, object's __ne__) asks -/
structure EqC (K : PySem.W.Frag) (C f : Addr) : Prop where
  eq : PySem.W.findIn K (.ref C) "__eq__" = some (some (.ref f))
  fn : PySem.W.isFn K (.ref f) = true
  ne : PySem.W.findIn K (.ref C) "__ne__" = some (some (.builtin "object.__ne__"))
  mo : PySem.W.mroIn K C (.type "object") = some true
/-- a == b by the own __eq__ of a -/
def rEqO (K : PySem.W.Frag) (C : Addr) (sp : Sp) (E : XK) (g : Bool → Bool) : R2 := fun x y H Q => ∃ a dx fs t, x = .ref a ∧ H a = some (.ins C dx fs) ∧ TyX K H y t ∧ PySem.W.notFirst K C t = true ∧ sp [x, y] H (fun z H' => ∃ b, z = .bl b ∧ Q (.bl (g b)) H') E
theorem op_eqO (T : EqC X.K C f) (F : FnOk X.prog X.w X.K X.mg X.base CX k f fd ps sp) (hr : Room (k + 1) X.A) (hb : Binds X.K fd ps []) (hx : Passes CX X E) : OpR X (compareOp .Eq) (rEqO X.K C sp E id) := by
  intro pins s σ H x y v u Q iv rx ry kq
  obtain ⟨a, dx, fs, t, rfl, ha, ty, hn, q⟩ := kq
  cases rx
  obtain ⟨mo, jv, _⟩ := ins_get iv.hok ha
  obtain ⟨od, jv, _⟩ := jv.look
  obtain ⟨m, hF⟩ := iv.fr
  show wpAny (model X.prog X.w) X.A (richCompare .Eq (.ref a) u) (EP X pins σ Q) X.xe s
  refine PySem.W.cmp_K (op := .Eq) (tb := t) hr.units0 hF iv.ok.mod.kin jv (ty_looks iv ry ty) hn T.eq T.fn ?_
  refine wpAny_mono (run_in F (hr.mono (Nat.le_succ k)) rfl hb hx iv (.cons (rr a) (.cons ry .nil)) q) (fun z s' h => ?_) fun _ _ z => z
  obtain ⟨z', H', I', rz, b, ez, qz⟩ := h
  subst ez
  cases rz
  exact ⟨.bl b, H', I', rfl, qz⟩
theorem op_neO (T : EqC X.K C f) (F : FnOk X.prog X.w X.K X.mg X.base CX k f fd ps sp) (hr : Room (k + 1) X.A) (hb : Binds X.K fd ps []) (hx : Passes CX X E) : OpR X (compareOp .NotEq) (rEqO X.K C sp E not) := by
  intro pins s σ H x y v u Q iv rx ry kq
  obtain ⟨a, dx, fs, t, rfl, ha, ty, hn, q⟩ := kq
  cases rx
  obtain ⟨mo, jv, _⟩ := ins_get iv.hok ha
  obtain ⟨od, jv, _⟩ := jv.look
  show wpAny (model X.prog X.w) X.A (richCompare .NotEq (.ref a) u) (EP X pins σ Q) X.xe s
  refine AWR.ne_K (tb := t) (hu_of hr) iv.kIn jv (ty_looks iv ry ty) hn T.ne T.mo T.eq T.fn ?_
  refine wpAny_mono (run_in F hr.in1 (in1_frames _) hb hx iv (.cons (rr a) (.cons ry .nil)) q) (fun z s' h => ?_) fun _ _ z => z
  obtain ⟨z', H', I', rz, b, ez, qz⟩ := h
  subst ez
  cases rz
  exact ⟨b, rfl, .bl (!b), H', I', rfl, qz⟩
/-- a op b by a's own method, b of the same class or of a built-in one -/
inductive RtOk (K : PySem.W.Frag) (C : Addr) (op : Operator) : Value → Prop where
  | same : RtOk K C op (.ref C)
  | ty {n : String} {r1 r2 : Option Value} (h1 : PySem.W.findIn K (.type n) (PySem.dunder op.info.2) = some r1) (h2 : PySem.W.findIn K (.type n) (PySem.dunderR op.info.2) = some r2) (hs : PySem.W.subIn K (.type n) (.ref C) = some false) : RtOk K C op (.type n)
structure OpC (K : PySem.W.Frag) (C f : Addr) (op : Operator) : Prop where
  self : PySem.W.selfFirst K C = true
  bop : PySem.W.findIn K (.ref C) (PySem.dunder op.info.2) = some (some (.ref f))
  rop : PySem.W.findIn K (.ref C) (PySem.dunderR op.info.2) = some none
  fn : PySem.W.isFn K (.ref f) = true
def rOpO (K : PySem.W.Frag) (C : Addr) (op : Operator) (sp : Sp) (E : XK) : R2 := fun x y H Q => ∃ a dx fs t, x = .ref a ∧ H a = some (.ins C dx fs) ∧ TyX K H y t ∧ RtOk K C op t ∧ sp [x, y] H Q E
theorem op_ownO {op : Operator} (T : OpC X.K C f op) (F : FnOk X.prog X.w X.K X.mg X.base CX k f fd ps sp) (hr : Room k X.A) (hb : Binds X.K fd ps []) (hx : Passes CX X E) : OpR X (binaryOp op) (rOpO X.K C op sp E) := by
  intro pins s σ H x y v u Q iv rx ry kq
  obtain ⟨a, dx, fs, t, rfl, ha, ty, rt, q⟩ := kq
  cases rx
  obtain ⟨mo, jv, _⟩ := ins_get iv.hok ha
  obtain ⟨od, jv, _⟩ := jv.look
  obtain ⟨m, hF⟩ := iv.fr
  have L := ty_looks iv ry ty
  have go : wpAny (model X.prog X.w) X.A (call (.ref f) [.ref a, u]) (PySem.W.CmpBack (EP X pins σ Q)) X.xe s :=
    wpAny_mono (run_in F hr rfl hb hx iv (.cons (rr a) (.cons ry .nil)) q) (fun z s' h => by
      obtain ⟨z', H', I', rz, qz⟩ := h
      exact SlX.cmpback rz ⟨z', H', I', rz, qz⟩) fun _ _ z => z
  cases rt with
  | same => exact PySem.W.binop_K hF iv.ok.mod.kin jv L T.self T.bop T.fn go
  | ty h1 h2 hs => exact AWR.binop_ty iv.kIn jv L T.self T.bop T.rop T.fn h1 h2 hs go
/-- ~a by a's own method -/
def rUnO (C : Addr) (sp : Sp) (E : XK) : V → Hp → VK → Prop := fun x H Q => ∃ a dx fs, x = .ref a ∧ H a = some (.ins C dx fs) ∧ sp [x] H Q E
theorem un_invO (hs : PySem.W.findIn X.K (.ref C) "__invert__" = some (some (.ref f))) (hf : PySem.W.isFn X.K (.ref f) = true) (F : FnOk X.prog X.w X.K X.mg X.base CX k f fd ps sp) (hr : Room k X.A) (hb : Binds X.K fd ps []) (hx : Passes CX X E) : UnR X (unaryOp .Invert) (rUnO C sp E) := by
  intro pins s σ H x v Q iv rx kq
  obtain ⟨a, dx, fs, rfl, ha, q⟩ := kq
  cases rx
  obtain ⟨mo, jv, _⟩ := ins_get iv.hok ha
  obtain ⟨od, jv, _⟩ := jv.look
  obtain ⟨m, hF⟩ := iv.fr
  exact PySem.W.ksp_inv hF iv.ok.mod.kin jv hs hf (run_in F hr rfl hb hx iv (.cons (rr a) .nil) q)
end
end AW

set_option linter.all false
set_option maxRecDepth 100000
set_option maxHeartbeats 4000000
/-! several except clauses, each with a name -/
namespace AW
open PySem PySem.Spec PyProof.Rows L2
abbrev Clause := Value × Nat × (Addr → Value → Option Addr → TS)
/-- behind a suite the clause's name is gone -/
def unD (D : Ends) (i : Nat) : Ends := { nx := fun σ' H' => D.nx (σ'.set i none) H', rt := D.rt, bk := fun σ' H' => D.bk (σ'.set i none) H', ct := fun σ' H' => D.ct (σ'.set i none) H' }
def wManyA (K : PySem.W.Frag) (Wout : WX) (D : Ends) : List Clause → WX
  | [] => Wout
  | (c, i, ts) :: r => fun cls d σ H => ∃ b, PySem.W.exmOne K cls c = some b ∧ (b = true → ∀ a, H a = none → ts a cls d (unD D i) (σ.set i (some (.ref a))) H) ∧ (b = false → wManyA K Wout D r cls d σ H)
inductive HdsOkA (X : Cx) : List ExceptHandler → List Clause → Prop
  | nil : HdsOkA X [] []
  | cons {x n : Str} {c : Value} {i : Nat} {ts : Addr → Value → Option Addr → TS} {b₀ : Stmt} {suite : List Stmt} {np pos' : Pos} {hds : List ExceptHandler} {l : List Clause} (hi : X.N[i]? = some n) (hln : X.env.kindOf n = some .local) (hc : Names X x c)
      (hsu : ∀ (a : Addr) (oe : Obj) (cls : Value) (d : Option Addr) (pn : List (Addr × Obj)), Zc cls d oe → (∃ vs, oe.data = .fields vs) → PSs (X.suite a ((a, oe) :: pn)) (b₀ :: suite) (ts a cls d)) (r : HdsOkA X hds l) :
      HdsOkA X (.ExceptHandler (some (.Name x np)) (some n) (b₀ :: suite) pos' :: hds) ((c, i, ts) :: l)
section
variable {X : Cx} {body : List Stmt} {h₀ : ExceptHandler} {hds : List ExceptHandler} {l : List Clause} {pos : Pos} {tb : WX → TS} {Wout : WX}
theorem ps_try_manyA (hs : X.stack = X.env :: X.outer) (hf : X.env.frame = some X.env.locals) (hN : X.N.Nodup) (tk : Takes X Wout)
    (hb : ∀ (W : WX) (pn : List (Addr × Obj)) (xe : Value → Shared → Prop), Takes (X.tr pn xe) W → PassesOwn (model X.prog X.w) X.A X.env xe → PSs (X.tr pn xe) body (tb W))
    (hh : HdsOkA X (h₀ :: hds) l) : PS X (.Try body (h₀ :: hds) [] [] pos) (fun D σ H => tb (wManyA X.K Wout D l) D σ H) := by
  refine ⟨fun pn0 s σ H D iv h => ?_⟩
  have okI := iv.ok
  have hFrames : X.A.frames = some (X.env :: X.outer) := by rw [okI.frames, hs]
  refine wpAny_Try_except ?_
  refine wpAny_mono ((hb (wManyA X.K Wout D l) (X.pn ++ pn0) (fun e s₁ => wpAny (model X.prog X.w) X.A (noteFrame e X.env) (fun _ s₂ => wpAny (model X.prog X.w) X.A (setFlight e none) (fun _ s₃ =>
    wpAny (model X.prog X.w) X.A (handleBy e X.env (h₀ :: hds)) (SP X pn0 D) X.xe s₃) X.xe s₂) X.xe s₁) (fun u s' xx => ?_) PassesOwn.looking).run [] s σ H D (iv.toTry _) h) (fun f s1 endp => ?_) (fun e s1 he => he)
  · obtain ⟨a, B, sI, pins', σ', H', cls, d, rfl, jw, nb, up, skA, na, os, ag, w⟩ := xx
    have jv : Inv X pn0 σ' H' sI := jw.ofTry okI
    have skB : Sky B (X.env :: X.outer) a (Zc cls d) X.env.locals s'.heap := by rw [← hs]; exact skA
    show wpAny (model X.prog X.w) X.A (noteFrame (.ref a) X.env) _ _ _
    refine Sky.land Zc.steady hFrames hf skB fun hpC flC upC => ?_
    have jC : Inv X pn0 σ' H' { s' with heap := hpC } := jv.landed nb flC.1 (up.trans upC) os ag
    obtain ⟨obC, vlC, heC, hzC, hdC⟩ := flC.there
    have frNot : ∀ {h : Heap} {o : Obj} {vs : Array Value}, h.FunFrames B (X.env :: X.outer) → h.get? a = some o → o.data = .fields vs → a ∉ frs (X.env :: X.outer) := fun {h o vs} ff e dd hmm => by
      obtain ⟨_, o', e', hnf⟩ := ff.mem hmm
      rw [e] at e'; cases e'
      exact hnf _ dd
    have frA := frNot flC.2.2.1 heC hdC
    have neL : a ≠ X.env.locals := fun z => frA (List.mem_filterMap.mpr ⟨X.env, List.mem_cons_self, by rw [hf, z]⟩)
    have neF : a ∉ X.fs := fun hmm => by
      obtain ⟨e, he, q⟩ := List.mem_filterMap.mp hmm
      exact frA (List.mem_filterMap.mpr ⟨e, List.mem_cons_of_mem _ he, q⟩)
    have suC := jC.suite heC hdC na neL neF
    have walk : ∀ {hds' : List ExceptHandler} {l' : List Clause}, HdsOkA X hds' l' → wManyA X.K Wout D l' cls d σ' H' →
        wpAny (model X.prog X.w) X.A (handleBy (.ref a) X.env hds') (SP X pn0 D) X.xe { s' with heap := hpC } := by
      intro hds' l' hk
      induction hk with
      | nil =>
        intro w
        refine wpAny_handleBy_nil ?_
        obtain ⟨k1, k2, k3, oe, vs, T, oT, ts', he, hz, hd, h1, hr⟩ := id flC
        unfold PySem.passOn
        refine wpAny_bind (wpAny_field he hd h1 ?_)
        rw [if_neg (show ¬ ((Value.ref T == Value.none) = true) from by simp)]
        have out : wpAny (model X.prog X.w) X.A (setFlight (.ref a) X.env.frame) (fun _ s4 => wpAny (model X.prog X.w) X.A (throw (.ref a) : Sem Flow) (SP X pn0 D) X.xe s4) X.xe { s' with heap := hpC } := by
          rw [hf]
          refine HandSPX.setFlight_upZ flC fun hpD hh4 upD => wpAny_throw (tk _ _ ?_)
          exact ⟨a, B, sI, pn0, σ', H', cls, d, rfl, jv, nb, (up.trans upC).trans upD, .inr (.inr (by rw [hs]; exact hh4)), na, os, ag, w⟩
        first
          | exact wpAny_bind (wpAny_pure (wpAny_bind out))
          | exact wpAny_bind out
      | @cons x n c i ts b₀ suite np pos' hds2 l2 hi hln hc hsu r ih =>
        intro w
        obtain ⟨b, hb1, hyes, hno⟩ := w
        have hloc : Loc X.env.scope n := .inl hln
        refine wpAny_handleBy_cons (codeAny_handlers_test ?_) (by intro q; cases q)
        have lkT : PySem.W.Looks (model X.prog X.w) hpC (typeOf (.ref a)) cls := fun A Q E s k q => wpAny_typeOf_ref (k _ _ heC) (by rw [hzC.1]; exact q)
        have lkM := PySem.W.exm_one (M := model X.prog X.w) (jC.kIn) lkT hb1
        have test : ∀ {Q : Value → Shared → Prop} {E : Value → Shared → Prop}, Q c { s' with heap := hpC } → wpAny (model X.prog X.w) (X.A.mark (some (.ref a))) (eval (.Name x np) X.env) Q E { s' with heap := hpC } := fun {Q E} q => by
          obtain ⟨hg, hdbg, hmm | ⟨hmm, hv, hnn⟩⟩ := hc
          · exact ld_glob (X := X.suite a ((a, obC) :: (X.pn ++ pn0))) suC hg hmm q hdbg
          · exact ld_blt (X := X.suite a ((a, obC) :: (X.pn ++ pn0))) suC hg hmm hv q hnn hdbg
        refine test (lkM.here ?_)
        cases b with
        | true =>
          refine codeAny_handlers_suite_as ?_
          refine HandSPX.lands_againZ flC fun hpD flD upD => ?_
          have jD : Inv X pn0 σ' H' { s' with heap := hpD } := jv.landed nb flD.1 ((up.trans upC).trans upD) os ag
          obtain ⟨obD, vlD, heD, hzD, hdD⟩ := flD.there
          have suD := jD.suite heD hdD na neL neF
          refine store_ok (X := X.suite a ((a, obD) :: (X.pn ++ pn0))) (v := .ref a) suD hN hi hloc rfl (fun shE suE => ?_) (.inr hln)
          refine wpAny_mono ((hsu a obD cls d (X.pn ++ pn0) hzD ⟨_, hdD⟩).run [] shE _ H' _ suE (hyes rfl a na)) (fun f shF endp => ?_) (fun _ _ z => False.elim z)
          have end_ : ∀ {stF : L2.St} {hpF : Hp} {Q : Shared → Prop}, Inv (X.suite a ((a, obD) :: (X.pn ++ pn0))) [] stF hpF shF → (∀ shG, Inv X pn0 (stF.set i none) hpF shG → Q shG) →
              wpAny (model X.prog X.w) X.A (do bindName X.env n .none; unbindBehindTheSuite X.env n pos') (fun _ shG => Q shG) X.xe shF := fun {stF hpF Q} suF hq => gone_ok (suF.unsuite okI) hN hi hln hq
          cases f with
          | next =>
            obtain ⟨stF, hpF, suF, qF⟩ := endp
            exact end_ suF fun shG jG => ⟨_, _, jG, qF⟩
          | brk =>
            obtain ⟨stF, hpF, suF, qF⟩ := endp
            exact end_ suF fun shG jG => ⟨_, _, jG, qF⟩
          | cont =>
            obtain ⟨stF, hpF, suF, qF⟩ := endp
            exact end_ suF fun shG jG => ⟨_, _, jG, qF⟩
          | ret u =>
            obtain ⟨vF, stF, hpF, suF, rF, qF⟩ := endp
            exact end_ suF fun shG jG => ⟨_, _, _, jG, rF, qF⟩
        | false =>
          show wpAny _ X.A (handleBy (.ref a) X.env hds2) _ _ _
          exact ih (hno rfl)
    exact walk hh w
  · cases f with
    | next =>
      obtain ⟨σ', H', jw, q⟩ := endp
      exact wpAny_execs_nil ⟨σ', H', jw.ofTry okI, q⟩
    | brk =>
      obtain ⟨σ', H', jw, q⟩ := endp
      exact ⟨σ', H', jw.ofTry okI, q⟩
    | cont =>
      obtain ⟨σ', H', jw, q⟩ := endp
      exact ⟨σ', H', jw.ofTry okI, q⟩
    | ret u =>
      obtain ⟨v, σ', H', jw, r, q⟩ := endp
      exact ⟨v, σ', H', jw.ofTry okI, r, q⟩
end
end AW

set_option linter.all false
set_option maxRecDepth 100000
set_option maxHeartbeats 4000000
namespace AW
open PySem PySem.Spec PyProof.Rows L2
def top (i : Nat) : Stmt := PySem.Challenge.pw_areawalks_k02_places.main.body.getD i (.Pass ⟨0, 0, 0, 0⟩)
abbrev s_BadNumber_init : Stmt := inClass (top 2) 0
abbrev s_BadPlace_init : Stmt := inClass (top 3) 0
abbrev s_is_integer : Stmt := top 5
abbrev s_check_integer : Stmt := top 6
abbrev s_Place_init : Stmt := inClass (top 8) 0
abbrev s_Place_eq : Stmt := inClass (top 8) 1
abbrev s_Place_mul : Stmt := inClass (top 8) 2
abbrev s_Place_invert : Stmt := inClass (top 8) 3
abbrev s_Place_power : Stmt := inClass (top 8) 4
abbrev s_Place_is_home : Stmt := inClass (top 8) 5
abbrev s_Place_lifted : Stmt := inClass (top 8) 6
abbrev s_Place_twist : Stmt := inClass (top 8) 7
abbrev s_check_place : Stmt := top 9
abbrev s_home_place : Stmt := top 10
abbrev s_product_of : Stmt := top 11
abbrev s_l_pen : Stmt := top 13
abbrev s_l_draw : Stmt := top 14
abbrev s_l_pick : Stmt := top 15
abbrev s_l_big : Stmt := top 16
abbrev s_l_whole : Stmt := top 17
abbrev s_l_place : Stmt := top 18
abbrev s_l_step : Stmt := top 19
abbrev s_l_swept : Stmt := top 20
abbrev s_l_refused : Stmt := top 21
abbrev s_l_same : Stmt := top 22
abbrev s_l_refusals_right : Stmt := top 23
abbrev s_l_powers_right : Stmt := top 24
abbrev s_law : Stmt := top 25
abbrev N_BadNumber_init : List Str := ["self", "value"]
abbrev P_BadNumber_init : List Str := ["self", "value"]
theorem sc_BadNumber_init : FnScope N_BadNumber_init P_BadNumber_init (defScope s_BadNumber_init) := ⟨rfl, rfl, rfl, by decide +kernel, rfl, by decide +kernel, by decide +kernel⟩
abbrev N_BadPlace_init : List Str := ["self", "value"]
abbrev P_BadPlace_init : List Str := ["self", "value"]
theorem sc_BadPlace_init : FnScope N_BadPlace_init P_BadPlace_init (defScope s_BadPlace_init) := ⟨rfl, rfl, rfl, by decide +kernel, rfl, by decide +kernel, by decide +kernel⟩
abbrev N_is_integer : List Str := ["value"]
abbrev P_is_integer : List Str := ["value"]
theorem sc_is_integer : FnScope N_is_integer P_is_integer (defScope s_is_integer) := ⟨rfl, rfl, rfl, by decide +kernel, rfl, by decide +kernel, by decide +kernel⟩
abbrev N_check_integer : List Str := ["value"]
abbrev P_check_integer : List Str := ["value"]
theorem sc_check_integer : FnScope N_check_integer P_check_integer (defScope s_check_integer) := ⟨rfl, rfl, rfl, by decide +kernel, rfl, by decide +kernel, by decide +kernel⟩
abbrev N_Place_init : List Str := ["self", "x", "y", "area", "value"]
abbrev P_Place_init : List Str := ["self", "x", "y", "area"]
theorem sc_Place_init : FnScope N_Place_init P_Place_init (defScope s_Place_init) := ⟨rfl, rfl, rfl, by decide +kernel, rfl, by decide +kernel, by decide +kernel⟩
abbrev N_Place_eq : List Str := ["self", "other"]
abbrev P_Place_eq : List Str := ["self", "other"]
theorem sc_Place_eq : FnScope N_Place_eq P_Place_eq (defScope s_Place_eq) := ⟨rfl, rfl, rfl, by decide +kernel, rfl, by decide +kernel, by decide +kernel⟩
abbrev N_Place_mul : List Str := ["self", "other"]
abbrev P_Place_mul : List Str := ["self", "other"]
theorem sc_Place_mul : FnScope N_Place_mul P_Place_mul (defScope s_Place_mul) := ⟨rfl, rfl, rfl, by decide +kernel, rfl, by decide +kernel, by decide +kernel⟩
abbrev N_Place_invert : List Str := ["self"]
abbrev P_Place_invert : List Str := ["self"]
theorem sc_Place_invert : FnScope N_Place_invert P_Place_invert (defScope s_Place_invert) := ⟨rfl, rfl, rfl, by decide +kernel, rfl, by decide +kernel, by decide +kernel⟩
abbrev N_Place_power : List Str := ["self", "number", "swept"]
abbrev P_Place_power : List Str := ["self", "number"]
theorem sc_Place_power : FnScope N_Place_power P_Place_power (defScope s_Place_power) := ⟨rfl, rfl, rfl, by decide +kernel, rfl, by decide +kernel, by decide +kernel⟩
abbrev N_Place_is_home : List Str := ["self"]
abbrev P_Place_is_home : List Str := ["self"]
theorem sc_Place_is_home : FnScope N_Place_is_home P_Place_is_home (defScope s_Place_is_home) := ⟨rfl, rfl, rfl, by decide +kernel, rfl, by decide +kernel, by decide +kernel⟩
abbrev N_Place_lifted : List Str := ["self", "storeys"]
abbrev P_Place_lifted : List Str := ["self", "storeys"]
theorem sc_Place_lifted : FnScope N_Place_lifted P_Place_lifted (defScope s_Place_lifted) := ⟨rfl, rfl, rfl, by decide +kernel, rfl, by decide +kernel, by decide +kernel⟩
abbrev N_Place_twist : List Str := ["self", "other"]
abbrev P_Place_twist : List Str := ["self", "other"]
theorem sc_Place_twist : FnScope N_Place_twist P_Place_twist (defScope s_Place_twist) := ⟨rfl, rfl, rfl, by decide +kernel, rfl, by decide +kernel, by decide +kernel⟩
abbrev N_check_place : List Str := ["value"]
abbrev P_check_place : List Str := ["value"]
theorem sc_check_place : FnScope N_check_place P_check_place (defScope s_check_place) := ⟨rfl, rfl, rfl, by decide +kernel, rfl, by decide +kernel, by decide +kernel⟩
abbrev N_home_place : List Str := []
abbrev P_home_place : List Str := []
theorem sc_home_place : FnScope N_home_place P_home_place (defScope s_home_place) := ⟨rfl, rfl, rfl, by decide +kernel, rfl, by decide +kernel, by decide +kernel⟩
abbrev N_product_of : List Str := ["places", "product", "place"]
abbrev P_product_of : List Str := ["places"]
theorem sc_product_of : FnScope N_product_of P_product_of (defScope s_product_of) := ⟨rfl, rfl, rfl, by decide +kernel, rfl, by decide +kernel, by decide +kernel⟩
abbrev N_l_pen : List Str := ["_law_script"]
abbrev P_l_pen : List Str := ["_law_script"]
theorem sc_l_pen : FnScope N_l_pen P_l_pen (defScope s_l_pen) := ⟨rfl, rfl, rfl, by decide +kernel, rfl, by decide +kernel, by decide +kernel⟩
abbrev N_l_draw : List Str := ["_law_pen_here", "_law_many", "_law_digit", "_law_stop", "_law_cell", "_law_blend"]
abbrev P_l_draw : List Str := ["_law_pen_here", "_law_many"]
theorem sc_l_draw : FnScope N_l_draw P_l_draw (defScope s_l_draw) := ⟨rfl, rfl, rfl, by decide +kernel, rfl, by decide +kernel, by decide +kernel⟩
abbrev N_l_pick : List Str := ["_law_pen_here", "_law_items"]
abbrev P_l_pick : List Str := ["_law_pen_here", "_law_items"]
theorem sc_l_pick : FnScope N_l_pick P_l_pick (defScope s_l_pick) := ⟨rfl, rfl, rfl, by decide +kernel, rfl, by decide +kernel, by decide +kernel⟩
abbrev N_l_big : List Str := ["_law_pen_here", "_law_size", "_law_found", "_law_k"]
abbrev P_l_big : List Str := ["_law_pen_here", "_law_size"]
theorem sc_l_big : FnScope N_l_big P_l_big (defScope s_l_big) := ⟨rfl, rfl, rfl, by decide +kernel, rfl, by decide +kernel, by decide +kernel⟩
abbrev N_l_whole : List Str := ["_law_pen_here", "_law_size"]
abbrev P_l_whole : List Str := ["_law_pen_here", "_law_size"]
theorem sc_l_whole : FnScope N_l_whole P_l_whole (defScope s_l_whole) := ⟨rfl, rfl, rfl, by decide +kernel, rfl, by decide +kernel, by decide +kernel⟩
abbrev N_l_place : List Str := ["_law_pen_here", "_law_size"]
abbrev P_l_place : List Str := ["_law_pen_here", "_law_size"]
theorem sc_l_place : FnScope N_l_place P_l_place (defScope s_l_place) := ⟨rfl, rfl, rfl, by decide +kernel, rfl, by decide +kernel, by decide +kernel⟩
abbrev N_l_step : List Str := ["_law_letter"]
abbrev P_l_step : List Str := ["_law_letter"]
theorem sc_l_step : FnScope N_l_step P_l_step (defScope s_l_step) := ⟨rfl, rfl, rfl, by decide +kernel, rfl, by decide +kernel, by decide +kernel⟩
abbrev N_l_swept : List Str := ["_law_letters", "_law_across", "_law_upward", "_law_swept_here", "_law_letter"]
abbrev P_l_swept : List Str := ["_law_letters"]
theorem sc_l_swept : FnScope N_l_swept P_l_swept (defScope s_l_swept) := ⟨rfl, rfl, rfl, by decide +kernel, rfl, by decide +kernel, by decide +kernel⟩
abbrev N_l_refused : List Str := ["_law_ask", "e"]
abbrev P_l_refused : List Str := ["_law_ask"]
theorem sc_l_refused : FnScope N_l_refused P_l_refused (defScope s_l_refused) := ⟨rfl, rfl, rfl, by decide +kernel, rfl, by decide +kernel, by decide +kernel⟩
abbrev N_l_same : List Str := ["_law_one", "_law_other"]
abbrev P_l_same : List Str := ["_law_one", "_law_other"]
theorem sc_l_same : FnScope N_l_same P_l_same (defScope s_l_same) := ⟨rfl, rfl, rfl, by decide +kernel, rfl, by decide +kernel, by decide +kernel⟩
abbrev N_l_refusals_right : List Str := ["_law_pen_here", "_law_place_here", "_law_odds", "_law_odd", "_law_other", "_law_thing"]
abbrev P_l_refusals_right : List Str := ["_law_pen_here", "_law_place_here"]
theorem sc_l_refusals_right : FnScope N_l_refusals_right P_l_refusals_right (defScope s_l_refusals_right) := ⟨rfl, rfl, rfl, by decide +kernel, rfl, by decide +kernel, by decide +kernel⟩
abbrev N_l_powers_right : List Str := ["_law_pen_here", "_law_place_here", "_law_many", "_law_few", "_law_far"]
abbrev P_l_powers_right : List Str := ["_law_pen_here", "_law_place_here"]
theorem sc_l_powers_right : FnScope N_l_powers_right P_l_powers_right (defScope s_l_powers_right) := ⟨rfl, rfl, rfl, by decide +kernel, rfl, by decide +kernel, by decide +kernel⟩
abbrev N_law : List Str := ["_law_script", "_law_pen_here", "_law_lap", "_law_letters", "_law_led", "_law_size", "_law_one", "_law_two", "_law_three", "_law_k", "_law_letter"]
abbrev P_law : List Str := ["_law_script"]
theorem sc_law : FnScope N_law P_law (defScope s_law) := ⟨rfl, rfl, rfl, by decide +kernel, rfl, by decide +kernel, by decide +kernel⟩
/-- a def whose code object is known -/
structure FunC (K : PySem.W.Frag) (x qual : Str) (st : Stmt) (f : Addr) (fd : FuncData) (c : Addr) : Prop where
  ex : ∃ (oc : Value) (od : Option Addr) (kV doc pm : Value) (an : Option Addr) (ct : Value) (osl : Array (Option Value)),
    fd = PySem.W.fnOf x qual (defArgs st) (defBody st) (defScope st) .none kV doc pm an (.ref c) ct ∧ K.lookup f = some ⟨oc, od, .func fd, osl⟩ ∧ PySem.W.codeIn K (.ref c) qual = true
  kp : PySem.W.keepIn K (.ref f) = true
section
variable {P : Program} {w : World} {K : PySem.W.Frag} {mg : Str → Option Value} {base : Heap}
theorem FunC.okX {x qual : Str} {st : Stmt} {f : Addr} {fd : FuncData} {c : Addr} {N ps : List Str} {k : Nat} {sp : Sp} (F : FunC K x qual st f fd c) (S : FnScope N ps (defScope st)) (len : ∀ vs H Q E, sp vs H Q E → vs.length = ps.length)
    (hbody : ∀ (A : Around) (outer : List Env) (s : Shared) (H : Hp) (vs : List V) (Q : VK) (E : XK), Room k (A.deeper (envOfC qual (defScope st) s.heap.objs.size f (.ref c))) → sp vs H Q E →
      ∃ t, PSs (cxOf (L2.CX P w) P w K mg base N qual (defScope st) f (.ref c) A outer s H E) (defBody st) t ∧ t { nx := fun _ H' => Q .non H', rt := Q } (start N vs) H) : FnOk P w K mg base (L2.CX P w) (k + 1) f fd ps sp := by
  obtain ⟨oc, od, kV, doc, pm, an, ct, osl, rfl, lk, hcd⟩ := F.ex
  exact fn_of lk hcd S len fun A outer s H vs Q E hr hsp => hbody A outer s H vs Q E hr hsp
end
/-- what the top has left -/
structure Tx (K : PySem.W.Frag) (mg : Str → Option Value) where
  a_is_integer : Addr
  d_is_integer : FuncData
  F_is_integer : Fun K "is_integer" "is_integer" s_is_integer a_is_integer d_is_integer
  b_is_integer : Binds K d_is_integer P_is_integer []
  g_is_integer : mg "is_integer" = some (.ref a_is_integer)
  a_check_integer : Addr
  d_check_integer : FuncData
  F_check_integer : Fun K "check_integer" "check_integer" s_check_integer a_check_integer d_check_integer
  b_check_integer : Binds K d_check_integer P_check_integer []
  g_check_integer : mg "check_integer" = some (.ref a_check_integer)
  a_check_place : Addr
  d_check_place : FuncData
  F_check_place : Fun K "check_place" "check_place" s_check_place a_check_place d_check_place
  b_check_place : Binds K d_check_place P_check_place []
  g_check_place : mg "check_place" = some (.ref a_check_place)
  a_home_place : Addr
  d_home_place : FuncData
  F_home_place : Fun K "home_place" "home_place" s_home_place a_home_place d_home_place
  b_home_place : Binds K d_home_place P_home_place []
  g_home_place : mg "home_place" = some (.ref a_home_place)
  a_product_of : Addr
  d_product_of : FuncData
  F_product_of : Fun K "product_of" "product_of" s_product_of a_product_of d_product_of
  b_product_of : Binds K d_product_of P_product_of []
  g_product_of : mg "product_of" = some (.ref a_product_of)
  a_l_pen : Addr
  d_l_pen : FuncData
  F_l_pen : Fun K "_law_pen" "_law_pen" s_l_pen a_l_pen d_l_pen
  b_l_pen : Binds K d_l_pen P_l_pen []
  g_l_pen : mg "_law_pen" = some (.ref a_l_pen)
  a_l_draw : Addr
  d_l_draw : FuncData
  F_l_draw : Fun K "_law_draw" "_law_draw" s_l_draw a_l_draw d_l_draw
  b_l_draw : Binds K d_l_draw P_l_draw []
  g_l_draw : mg "_law_draw" = some (.ref a_l_draw)
  a_l_pick : Addr
  d_l_pick : FuncData
  F_l_pick : Fun K "_law_pick" "_law_pick" s_l_pick a_l_pick d_l_pick
  b_l_pick : Binds K d_l_pick P_l_pick []
  g_l_pick : mg "_law_pick" = some (.ref a_l_pick)
  a_l_big : Addr
  d_l_big : FuncData
  F_l_big : Fun K "_law_big" "_law_big" s_l_big a_l_big d_l_big
  b_l_big : Binds K d_l_big P_l_big []
  g_l_big : mg "_law_big" = some (.ref a_l_big)
  a_l_whole : Addr
  d_l_whole : FuncData
  F_l_whole : Fun K "_law_whole" "_law_whole" s_l_whole a_l_whole d_l_whole
  b_l_whole : Binds K d_l_whole P_l_whole []
  g_l_whole : mg "_law_whole" = some (.ref a_l_whole)
  a_l_place : Addr
  d_l_place : FuncData
  F_l_place : Fun K "_law_place" "_law_place" s_l_place a_l_place d_l_place
  b_l_place : Binds K d_l_place P_l_place []
  g_l_place : mg "_law_place" = some (.ref a_l_place)
  a_l_step : Addr
  d_l_step : FuncData
  F_l_step : Fun K "_law_step" "_law_step" s_l_step a_l_step d_l_step
  b_l_step : Binds K d_l_step P_l_step []
  g_l_step : mg "_law_step" = some (.ref a_l_step)
  a_l_swept : Addr
  d_l_swept : FuncData
  F_l_swept : Fun K "_law_swept" "_law_swept" s_l_swept a_l_swept d_l_swept
  b_l_swept : Binds K d_l_swept P_l_swept []
  g_l_swept : mg "_law_swept" = some (.ref a_l_swept)
  a_l_refused : Addr
  d_l_refused : FuncData
  F_l_refused : Fun K "_law_refused" "_law_refused" s_l_refused a_l_refused d_l_refused
  b_l_refused : Binds K d_l_refused P_l_refused []
  g_l_refused : mg "_law_refused" = some (.ref a_l_refused)
  a_l_same : Addr
  d_l_same : FuncData
  F_l_same : Fun K "_law_same" "_law_same" s_l_same a_l_same d_l_same
  b_l_same : Binds K d_l_same P_l_same []
  g_l_same : mg "_law_same" = some (.ref a_l_same)
  a_l_refusals_right : Addr
  d_l_refusals_right : FuncData
  cc_l_refusals_right : Addr
  pt_l_refusals_right : Addr
  h_l_refusals_right : PySem.W.codeHdIn K cc_l_refusals_right pt_l_refusals_right = true
  n_l_refusals_right : K.lookup pt_l_refusals_right = none
  FC_l_refusals_right : FunC K "_law_refusals_right" "_law_refusals_right" s_l_refusals_right a_l_refusals_right d_l_refusals_right cc_l_refusals_right
  F_l_refusals_right : Fun K "_law_refusals_right" "_law_refusals_right" s_l_refusals_right a_l_refusals_right d_l_refusals_right
  b_l_refusals_right : Binds K d_l_refusals_right P_l_refusals_right []
  g_l_refusals_right : mg "_law_refusals_right" = some (.ref a_l_refusals_right)
  a_l_powers_right : Addr
  d_l_powers_right : FuncData
  F_l_powers_right : Fun K "_law_powers_right" "_law_powers_right" s_l_powers_right a_l_powers_right d_l_powers_right
  b_l_powers_right : Binds K d_l_powers_right P_l_powers_right []
  g_l_powers_right : mg "_law_powers_right" = some (.ref a_l_powers_right)
  a_law : Addr
  d_law : FuncData
  F_law : Fun K "law" "law" s_law a_law d_law
  b_law : Binds K d_law P_law []
  g_law : mg "law" = some (.ref a_law)
  C_WalkError : Addr
  g_C_WalkError : mg "WalkError" = some (.ref C_WalkError)
  X_WalkError : OexC K C_WalkError
  Y_WalkError : XfC K C_WalkError
  C_BadNumber : Addr
  g_C_BadNumber : mg "BadNumber" = some (.ref C_BadNumber)
  a_BadNumber_init : Addr
  d_BadNumber_init : FuncData
  F_BadNumber_init : Fun K "__init__" "BadNumber.__init__" s_BadNumber_init a_BadNumber_init d_BadNumber_init
  b_BadNumber_init : Binds K d_BadNumber_init P_BadNumber_init []
  X_BadNumber : OexC K C_BadNumber
  Y_BadNumber : XfC K C_BadNumber
  ei_BadNumber : PySem.W.findIn K (.ref C_BadNumber) "__init__" = some (some (.ref a_BadNumber_init))
  et_BadNumber : PySem.W.typeIn K (.ref a_BadNumber_init) = some (.type "function")
  na_BadNumber_value : PySem.W.findIn K (.ref C_BadNumber) "value" = some none
  C_BadPlace : Addr
  g_C_BadPlace : mg "BadPlace" = some (.ref C_BadPlace)
  a_BadPlace_init : Addr
  d_BadPlace_init : FuncData
  F_BadPlace_init : Fun K "__init__" "BadPlace.__init__" s_BadPlace_init a_BadPlace_init d_BadPlace_init
  b_BadPlace_init : Binds K d_BadPlace_init P_BadPlace_init []
  X_BadPlace : OexC K C_BadPlace
  Y_BadPlace : XfC K C_BadPlace
  ei_BadPlace : PySem.W.findIn K (.ref C_BadPlace) "__init__" = some (some (.ref a_BadPlace_init))
  et_BadPlace : PySem.W.typeIn K (.ref a_BadPlace_init) = some (.type "function")
  na_BadPlace_value : PySem.W.findIn K (.ref C_BadPlace) "value" = some none
  C_Place : Addr
  g_C_Place : mg "Place" = some (.ref C_Place)
  cl_Place : Cls K C_Place
  ca_Place : PySem.W.findIn K (.ref C_Place) "__class__" = some (some (.builtin "object.__class__"))
  cm_Place : PySem.W.mroIn K C_Place (.type "object") = some true
  na_Place_x : NoAttr K C_Place "x"
  na_Place_y : NoAttr K C_Place "y"
  na_Place_area : NoAttr K C_Place "area"
  a_Place_init : Addr
  d_Place_init : FuncData
  F_Place_init : Fun K "__init__" "Place.__init__" s_Place_init a_Place_init d_Place_init
  b_Place_init : Binds K d_Place_init P_Place_init []
  M_Place : Mk K C_Place a_Place_init
  a_Place_eq : Addr
  d_Place_eq : FuncData
  F_Place_eq : Fun K "__eq__" "Place.__eq__" s_Place_eq a_Place_eq d_Place_eq
  b_Place_eq : Binds K d_Place_eq P_Place_eq []
  E_Place : EqC K C_Place a_Place_eq
  a_Place_mul : Addr
  d_Place_mul : FuncData
  F_Place_mul : Fun K "__mul__" "Place.__mul__" s_Place_mul a_Place_mul d_Place_mul
  b_Place_mul : Binds K d_Place_mul P_Place_mul []
  O_Place_Mult : OpC K C_Place a_Place_mul .Mult
  a_Place_invert : Addr
  d_Place_invert : FuncData
  F_Place_invert : Fun K "__invert__" "Place.__invert__" s_Place_invert a_Place_invert d_Place_invert
  b_Place_invert : Binds K d_Place_invert P_Place_invert []
  m_Place_invert : PySem.W.findIn K (.ref C_Place) "__invert__" = some (some (.ref a_Place_invert))
  i_Place_invert : PySem.W.isFn K (.ref a_Place_invert) = true
  a_Place_power : Addr
  d_Place_power : FuncData
  F_Place_power : Fun K "power" "Place.power" s_Place_power a_Place_power d_Place_power
  b_Place_power : Binds K d_Place_power P_Place_power []
  M_Place_power : Meth K C_Place "power" a_Place_power
  a_Place_is_home : Addr
  d_Place_is_home : FuncData
  F_Place_is_home : Fun K "is_home" "Place.is_home" s_Place_is_home a_Place_is_home d_Place_is_home
  b_Place_is_home : Binds K d_Place_is_home P_Place_is_home []
  M_Place_is_home : Meth K C_Place "is_home" a_Place_is_home
  a_Place_lifted : Addr
  d_Place_lifted : FuncData
  F_Place_lifted : Fun K "lifted" "Place.lifted" s_Place_lifted a_Place_lifted d_Place_lifted
  b_Place_lifted : Binds K d_Place_lifted P_Place_lifted []
  M_Place_lifted : Meth K C_Place "lifted" a_Place_lifted
  a_Place_twist : Addr
  d_Place_twist : FuncData
  F_Place_twist : Fun K "twist" "Place.twist" s_Place_twist a_Place_twist d_Place_twist
  b_Place_twist : Binds K d_Place_twist P_Place_twist []
  M_Place_twist : Meth K C_Place "twist" a_Place_twist
  cn : PySem.W.specialIn K (.builtin "object.__class__") "__get__" = some (some (.builtin "getset_descriptor.__get__"))
  ct : PySem.W.takesIn K (.builtin "object.__class__") = some true
  io_Place_int : PySem.W.kitOne K (.ref C_Place) (.type "int") = some false
  io_Place_bool : PySem.W.kitOne K (.ref C_Place) (.type "bool") = some false
  is_NoneType_Place : PySem.W.kitOne K (.type "NoneType") (.ref C_Place) = some false
  sb_NoneType_Place : PySem.W.subIn K (.type "NoneType") (.ref C_Place) = some false
  is_bool_Place : PySem.W.kitOne K (.type "bool") (.ref C_Place) = some false
  sb_bool_Place : PySem.W.subIn K (.type "bool") (.ref C_Place) = some false
  is_int_Place : PySem.W.kitOne K (.type "int") (.ref C_Place) = some false
  sb_int_Place : PySem.W.subIn K (.type "int") (.ref C_Place) = some false
  is_str_Place : PySem.W.kitOne K (.type "str") (.ref C_Place) = some false
  sb_str_Place : PySem.W.subIn K (.type "str") (.ref C_Place) = some false
  is_list_Place : PySem.W.kitOne K (.type "list") (.ref C_Place) = some false
  sb_list_Place : PySem.W.subIn K (.type "list") (.ref C_Place) = some false
  is_tuple_Place : PySem.W.kitOne K (.type "tuple") (.ref C_Place) = some false
  sb_tuple_Place : PySem.W.subIn K (.type "tuple") (.ref C_Place) = some false
  is_dict_Place : PySem.W.kitOne K (.type "dict") (.ref C_Place) = some false
  sb_dict_Place : PySem.W.subIn K (.type "dict") (.ref C_Place) = some false
  em_BadNumber_BadNumber : PySem.W.exmOne K (.ref C_BadNumber) (.ref C_BadNumber) = some true
  em_BadPlace_BadNumber : PySem.W.exmOne K (.ref C_BadPlace) (.ref C_BadNumber) = some false
  em_BadNumber_BadPlace : PySem.W.exmOne K (.ref C_BadNumber) (.ref C_BadPlace) = some false
  em_BadPlace_BadPlace : PySem.W.exmOne K (.ref C_BadPlace) (.ref C_BadPlace) = some true
  em_BadNumber_WalkError : PySem.W.exmOne K (.ref C_BadNumber) (.ref C_WalkError) = some true
  em_BadPlace_WalkError : PySem.W.exmOne K (.ref C_BadPlace) (.ref C_WalkError) = some true
  n_all : mg "all" = none
  n_bool : mg "bool" = none
  n_int : mg "int" = none
  n_isinstance : mg "isinstance" = none
  n_len : mg "len" = none
  n_list : mg "list" = none
  n_min : mg "min" = none
  n_range : mg "range" = none
theorem tx_mk {K : PySem.W.Frag} {h : Heap} {mg : Str → Option Value} {fa : Addr} {f_BadNumber_init : Addr} {od_BadNumber_init an_BadNumber_init : Option Addr} {sl_BadNumber_init : Array (Option Value)} {oc_BadNumber_init kV_BadNumber_init dc_BadNumber_init pm_BadNumber_init cd_BadNumber_init ct_BadNumber_init : Value}
    {f_BadPlace_init : Addr} {od_BadPlace_init an_BadPlace_init : Option Addr} {sl_BadPlace_init : Array (Option Value)} {oc_BadPlace_init kV_BadPlace_init dc_BadPlace_init pm_BadPlace_init cd_BadPlace_init ct_BadPlace_init : Value}
    {f_is_integer : Addr} {od_is_integer an_is_integer : Option Addr} {sl_is_integer : Array (Option Value)} {oc_is_integer kV_is_integer dc_is_integer pm_is_integer cd_is_integer ct_is_integer : Value}
    {f_check_integer : Addr} {od_check_integer an_check_integer : Option Addr} {sl_check_integer : Array (Option Value)} {oc_check_integer kV_check_integer dc_check_integer pm_check_integer cd_check_integer ct_check_integer : Value}
    {f_Place_init : Addr} {od_Place_init an_Place_init : Option Addr} {sl_Place_init : Array (Option Value)} {oc_Place_init kV_Place_init dc_Place_init pm_Place_init cd_Place_init ct_Place_init : Value}
    {f_Place_eq : Addr} {od_Place_eq an_Place_eq : Option Addr} {sl_Place_eq : Array (Option Value)} {oc_Place_eq kV_Place_eq dc_Place_eq pm_Place_eq cd_Place_eq ct_Place_eq : Value}
    {f_Place_mul : Addr} {od_Place_mul an_Place_mul : Option Addr} {sl_Place_mul : Array (Option Value)} {oc_Place_mul kV_Place_mul dc_Place_mul pm_Place_mul cd_Place_mul ct_Place_mul : Value}
    {f_Place_invert : Addr} {od_Place_invert an_Place_invert : Option Addr} {sl_Place_invert : Array (Option Value)} {oc_Place_invert kV_Place_invert dc_Place_invert pm_Place_invert cd_Place_invert ct_Place_invert : Value}
    {f_Place_power : Addr} {od_Place_power an_Place_power : Option Addr} {sl_Place_power : Array (Option Value)} {oc_Place_power kV_Place_power dc_Place_power pm_Place_power cd_Place_power ct_Place_power : Value}
    {f_Place_is_home : Addr} {od_Place_is_home an_Place_is_home : Option Addr} {sl_Place_is_home : Array (Option Value)} {oc_Place_is_home kV_Place_is_home dc_Place_is_home pm_Place_is_home cd_Place_is_home ct_Place_is_home : Value}
    {f_Place_lifted : Addr} {od_Place_lifted an_Place_lifted : Option Addr} {sl_Place_lifted : Array (Option Value)} {oc_Place_lifted kV_Place_lifted dc_Place_lifted pm_Place_lifted cd_Place_lifted ct_Place_lifted : Value}
    {f_Place_twist : Addr} {od_Place_twist an_Place_twist : Option Addr} {sl_Place_twist : Array (Option Value)} {oc_Place_twist kV_Place_twist dc_Place_twist pm_Place_twist cd_Place_twist ct_Place_twist : Value}
    {f_check_place : Addr} {od_check_place an_check_place : Option Addr} {sl_check_place : Array (Option Value)} {oc_check_place kV_check_place dc_check_place pm_check_place cd_check_place ct_check_place : Value}
    {f_home_place : Addr} {od_home_place an_home_place : Option Addr} {sl_home_place : Array (Option Value)} {oc_home_place kV_home_place dc_home_place pm_home_place cd_home_place ct_home_place : Value}
    {f_product_of : Addr} {od_product_of an_product_of : Option Addr} {sl_product_of : Array (Option Value)} {oc_product_of kV_product_of dc_product_of pm_product_of cd_product_of ct_product_of : Value}
    {f_l_pen : Addr} {od_l_pen an_l_pen : Option Addr} {sl_l_pen : Array (Option Value)} {oc_l_pen kV_l_pen dc_l_pen pm_l_pen cd_l_pen ct_l_pen : Value}
    {f_l_draw : Addr} {od_l_draw an_l_draw : Option Addr} {sl_l_draw : Array (Option Value)} {oc_l_draw kV_l_draw dc_l_draw pm_l_draw cd_l_draw ct_l_draw : Value}
    {f_l_pick : Addr} {od_l_pick an_l_pick : Option Addr} {sl_l_pick : Array (Option Value)} {oc_l_pick kV_l_pick dc_l_pick pm_l_pick cd_l_pick ct_l_pick : Value}
    {f_l_big : Addr} {od_l_big an_l_big : Option Addr} {sl_l_big : Array (Option Value)} {oc_l_big kV_l_big dc_l_big pm_l_big cd_l_big ct_l_big : Value}
    {f_l_whole : Addr} {od_l_whole an_l_whole : Option Addr} {sl_l_whole : Array (Option Value)} {oc_l_whole kV_l_whole dc_l_whole pm_l_whole cd_l_whole ct_l_whole : Value}
    {f_l_place : Addr} {od_l_place an_l_place : Option Addr} {sl_l_place : Array (Option Value)} {oc_l_place kV_l_place dc_l_place pm_l_place cd_l_place ct_l_place : Value}
    {f_l_step : Addr} {od_l_step an_l_step : Option Addr} {sl_l_step : Array (Option Value)} {oc_l_step kV_l_step dc_l_step pm_l_step cd_l_step ct_l_step : Value}
    {f_l_swept : Addr} {od_l_swept an_l_swept : Option Addr} {sl_l_swept : Array (Option Value)} {oc_l_swept kV_l_swept dc_l_swept pm_l_swept cd_l_swept ct_l_swept : Value}
    {f_l_refused : Addr} {od_l_refused an_l_refused : Option Addr} {sl_l_refused : Array (Option Value)} {oc_l_refused kV_l_refused dc_l_refused pm_l_refused cd_l_refused ct_l_refused : Value}
    {f_l_same : Addr} {od_l_same an_l_same : Option Addr} {sl_l_same : Array (Option Value)} {oc_l_same kV_l_same dc_l_same pm_l_same cd_l_same ct_l_same : Value}
    {cc_l_refusals_right pt_l_refusals_right : Addr}
    {f_l_refusals_right : Addr} {od_l_refusals_right an_l_refusals_right : Option Addr} {sl_l_refusals_right : Array (Option Value)} {oc_l_refusals_right kV_l_refusals_right dc_l_refusals_right pm_l_refusals_right ct_l_refusals_right : Value}
    {f_l_powers_right : Addr} {od_l_powers_right an_l_powers_right : Option Addr} {sl_l_powers_right : Array (Option Value)} {oc_l_powers_right kV_l_powers_right dc_l_powers_right pm_l_powers_right cd_l_powers_right ct_l_powers_right : Value}
    {f_law : Addr} {od_law an_law : Option Addr} {sl_law : Array (Option Value)} {oc_law kV_law dc_law pm_law cd_law ct_law : Value}
    {C_WalkError : Addr}
    {C_BadNumber : Addr}
    {C_BadPlace : Addr}
    {C_Place : Addr}
    {nm_WalkError qn_WalkError : Str} {NN_WalkError : Addr} {bs_WalkError sb_WalkError : List Value} {sn_WalkError : List Str} {ab_WalkError : Bool} {co_WalkError : Option Bool} {dd_WalkError : Option Addr} {m0_WalkError m1_WalkError m2_WalkError m3_WalkError m5_WalkError : Option Value}
    {nm_BadNumber qn_BadNumber : Str} {NN_BadNumber : Addr} {bs_BadNumber sb_BadNumber : List Value} {sn_BadNumber : List Str} {ab_BadNumber : Bool} {co_BadNumber : Option Bool} {dd_BadNumber : Option Addr} {m0_BadNumber m1_BadNumber m2_BadNumber m3_BadNumber m5_BadNumber : Option Value}
    {nm_BadPlace qn_BadPlace : Str} {NN_BadPlace : Addr} {bs_BadPlace sb_BadPlace : List Value} {sn_BadPlace : List Str} {ab_BadPlace : Bool} {co_BadPlace : Option Bool} {dd_BadPlace : Option Addr} {m0_BadPlace m1_BadPlace m2_BadPlace m3_BadPlace m5_BadPlace : Option Value}
    (X : K.In h) (G : h.Ns mainGlobals mg) (hfa : mg "law" = some (.ref fa))
    (g_is_integer : PySem.W.nsIn K mainGlobals "is_integer" = some (some (.ref f_is_integer)))
    (l_is_integer : K.lookup f_is_integer = some ⟨oc_is_integer, od_is_integer, .func (PySem.W.fnOf "is_integer" "is_integer" (defArgs s_is_integer) (defBody s_is_integer) (defScope s_is_integer) .none kV_is_integer dc_is_integer pm_is_integer an_is_integer cd_is_integer ct_is_integer), sl_is_integer⟩)
    (c_is_integer : PySem.W.codeIn K cd_is_integer "is_integer" = true)
    (k_is_integer : PySem.W.keepIn K (.ref f_is_integer) = true)
    (g_check_integer : PySem.W.nsIn K mainGlobals "check_integer" = some (some (.ref f_check_integer)))
    (l_check_integer : K.lookup f_check_integer = some ⟨oc_check_integer, od_check_integer, .func (PySem.W.fnOf "check_integer" "check_integer" (defArgs s_check_integer) (defBody s_check_integer) (defScope s_check_integer) .none kV_check_integer dc_check_integer pm_check_integer an_check_integer cd_check_integer ct_check_integer), sl_check_integer⟩)
    (c_check_integer : PySem.W.codeIn K cd_check_integer "check_integer" = true)
    (k_check_integer : PySem.W.keepIn K (.ref f_check_integer) = true)
    (g_check_place : PySem.W.nsIn K mainGlobals "check_place" = some (some (.ref f_check_place)))
    (l_check_place : K.lookup f_check_place = some ⟨oc_check_place, od_check_place, .func (PySem.W.fnOf "check_place" "check_place" (defArgs s_check_place) (defBody s_check_place) (defScope s_check_place) .none kV_check_place dc_check_place pm_check_place an_check_place cd_check_place ct_check_place), sl_check_place⟩)
    (c_check_place : PySem.W.codeIn K cd_check_place "check_place" = true)
    (k_check_place : PySem.W.keepIn K (.ref f_check_place) = true)
    (g_home_place : PySem.W.nsIn K mainGlobals "home_place" = some (some (.ref f_home_place)))
    (l_home_place : K.lookup f_home_place = some ⟨oc_home_place, od_home_place, .func (PySem.W.fnOf "home_place" "home_place" (defArgs s_home_place) (defBody s_home_place) (defScope s_home_place) .none kV_home_place dc_home_place pm_home_place an_home_place cd_home_place ct_home_place), sl_home_place⟩)
    (c_home_place : PySem.W.codeIn K cd_home_place "home_place" = true)
    (k_home_place : PySem.W.keepIn K (.ref f_home_place) = true)
    (g_product_of : PySem.W.nsIn K mainGlobals "product_of" = some (some (.ref f_product_of)))
    (l_product_of : K.lookup f_product_of = some ⟨oc_product_of, od_product_of, .func (PySem.W.fnOf "product_of" "product_of" (defArgs s_product_of) (defBody s_product_of) (defScope s_product_of) .none kV_product_of dc_product_of pm_product_of an_product_of cd_product_of ct_product_of), sl_product_of⟩)
    (c_product_of : PySem.W.codeIn K cd_product_of "product_of" = true)
    (k_product_of : PySem.W.keepIn K (.ref f_product_of) = true)
    (g_l_pen : PySem.W.nsIn K mainGlobals "_law_pen" = some (some (.ref f_l_pen)))
    (l_l_pen : K.lookup f_l_pen = some ⟨oc_l_pen, od_l_pen, .func (PySem.W.fnOf "_law_pen" "_law_pen" (defArgs s_l_pen) (defBody s_l_pen) (defScope s_l_pen) .none kV_l_pen dc_l_pen pm_l_pen an_l_pen cd_l_pen ct_l_pen), sl_l_pen⟩)
    (c_l_pen : PySem.W.codeIn K cd_l_pen "_law_pen" = true)
    (k_l_pen : PySem.W.keepIn K (.ref f_l_pen) = true)
    (g_l_draw : PySem.W.nsIn K mainGlobals "_law_draw" = some (some (.ref f_l_draw)))
    (l_l_draw : K.lookup f_l_draw = some ⟨oc_l_draw, od_l_draw, .func (PySem.W.fnOf "_law_draw" "_law_draw" (defArgs s_l_draw) (defBody s_l_draw) (defScope s_l_draw) .none kV_l_draw dc_l_draw pm_l_draw an_l_draw cd_l_draw ct_l_draw), sl_l_draw⟩)
    (c_l_draw : PySem.W.codeIn K cd_l_draw "_law_draw" = true)
    (k_l_draw : PySem.W.keepIn K (.ref f_l_draw) = true)
    (g_l_pick : PySem.W.nsIn K mainGlobals "_law_pick" = some (some (.ref f_l_pick)))
    (l_l_pick : K.lookup f_l_pick = some ⟨oc_l_pick, od_l_pick, .func (PySem.W.fnOf "_law_pick" "_law_pick" (defArgs s_l_pick) (defBody s_l_pick) (defScope s_l_pick) .none kV_l_pick dc_l_pick pm_l_pick an_l_pick cd_l_pick ct_l_pick), sl_l_pick⟩)
    (c_l_pick : PySem.W.codeIn K cd_l_pick "_law_pick" = true)
    (k_l_pick : PySem.W.keepIn K (.ref f_l_pick) = true)
    (g_l_big : PySem.W.nsIn K mainGlobals "_law_big" = some (some (.ref f_l_big)))
    (l_l_big : K.lookup f_l_big = some ⟨oc_l_big, od_l_big, .func (PySem.W.fnOf "_law_big" "_law_big" (defArgs s_l_big) (defBody s_l_big) (defScope s_l_big) .none kV_l_big dc_l_big pm_l_big an_l_big cd_l_big ct_l_big), sl_l_big⟩)
    (c_l_big : PySem.W.codeIn K cd_l_big "_law_big" = true)
    (k_l_big : PySem.W.keepIn K (.ref f_l_big) = true)
    (g_l_whole : PySem.W.nsIn K mainGlobals "_law_whole" = some (some (.ref f_l_whole)))
    (l_l_whole : K.lookup f_l_whole = some ⟨oc_l_whole, od_l_whole, .func (PySem.W.fnOf "_law_whole" "_law_whole" (defArgs s_l_whole) (defBody s_l_whole) (defScope s_l_whole) .none kV_l_whole dc_l_whole pm_l_whole an_l_whole cd_l_whole ct_l_whole), sl_l_whole⟩)
    (c_l_whole : PySem.W.codeIn K cd_l_whole "_law_whole" = true)
    (k_l_whole : PySem.W.keepIn K (.ref f_l_whole) = true)
    (g_l_place : PySem.W.nsIn K mainGlobals "_law_place" = some (some (.ref f_l_place)))
    (l_l_place : K.lookup f_l_place = some ⟨oc_l_place, od_l_place, .func (PySem.W.fnOf "_law_place" "_law_place" (defArgs s_l_place) (defBody s_l_place) (defScope s_l_place) .none kV_l_place dc_l_place pm_l_place an_l_place cd_l_place ct_l_place), sl_l_place⟩)
    (c_l_place : PySem.W.codeIn K cd_l_place "_law_place" = true)
    (k_l_place : PySem.W.keepIn K (.ref f_l_place) = true)
    (g_l_step : PySem.W.nsIn K mainGlobals "_law_step" = some (some (.ref f_l_step)))
    (l_l_step : K.lookup f_l_step = some ⟨oc_l_step, od_l_step, .func (PySem.W.fnOf "_law_step" "_law_step" (defArgs s_l_step) (defBody s_l_step) (defScope s_l_step) .none kV_l_step dc_l_step pm_l_step an_l_step cd_l_step ct_l_step), sl_l_step⟩)
    (c_l_step : PySem.W.codeIn K cd_l_step "_law_step" = true)
    (k_l_step : PySem.W.keepIn K (.ref f_l_step) = true)
    (g_l_swept : PySem.W.nsIn K mainGlobals "_law_swept" = some (some (.ref f_l_swept)))
    (l_l_swept : K.lookup f_l_swept = some ⟨oc_l_swept, od_l_swept, .func (PySem.W.fnOf "_law_swept" "_law_swept" (defArgs s_l_swept) (defBody s_l_swept) (defScope s_l_swept) .none kV_l_swept dc_l_swept pm_l_swept an_l_swept cd_l_swept ct_l_swept), sl_l_swept⟩)
    (c_l_swept : PySem.W.codeIn K cd_l_swept "_law_swept" = true)
    (k_l_swept : PySem.W.keepIn K (.ref f_l_swept) = true)
    (g_l_refused : PySem.W.nsIn K mainGlobals "_law_refused" = some (some (.ref f_l_refused)))
    (l_l_refused : K.lookup f_l_refused = some ⟨oc_l_refused, od_l_refused, .func (PySem.W.fnOf "_law_refused" "_law_refused" (defArgs s_l_refused) (defBody s_l_refused) (defScope s_l_refused) .none kV_l_refused dc_l_refused pm_l_refused an_l_refused cd_l_refused ct_l_refused), sl_l_refused⟩)
    (c_l_refused : PySem.W.codeIn K cd_l_refused "_law_refused" = true)
    (k_l_refused : PySem.W.keepIn K (.ref f_l_refused) = true)
    (g_l_same : PySem.W.nsIn K mainGlobals "_law_same" = some (some (.ref f_l_same)))
    (l_l_same : K.lookup f_l_same = some ⟨oc_l_same, od_l_same, .func (PySem.W.fnOf "_law_same" "_law_same" (defArgs s_l_same) (defBody s_l_same) (defScope s_l_same) .none kV_l_same dc_l_same pm_l_same an_l_same cd_l_same ct_l_same), sl_l_same⟩)
    (c_l_same : PySem.W.codeIn K cd_l_same "_law_same" = true)
    (k_l_same : PySem.W.keepIn K (.ref f_l_same) = true)
    (g_l_refusals_right : PySem.W.nsIn K mainGlobals "_law_refusals_right" = some (some (.ref f_l_refusals_right)))
    (l_l_refusals_right : K.lookup f_l_refusals_right = some ⟨oc_l_refusals_right, od_l_refusals_right, .func (PySem.W.fnOf "_law_refusals_right" "_law_refusals_right" (defArgs s_l_refusals_right) (defBody s_l_refusals_right) (defScope s_l_refusals_right) .none kV_l_refusals_right dc_l_refusals_right pm_l_refusals_right an_l_refusals_right (Value.ref cc_l_refusals_right) ct_l_refusals_right), sl_l_refusals_right⟩)
    (c_l_refusals_right : PySem.W.codeIn K (Value.ref cc_l_refusals_right) "_law_refusals_right" = true)
    (h_l_refusals_right : PySem.W.codeHdIn K cc_l_refusals_right pt_l_refusals_right = true)
    (n_l_refusals_right : K.lookup pt_l_refusals_right = none)
    (k_l_refusals_right : PySem.W.keepIn K (.ref f_l_refusals_right) = true)
    (g_l_powers_right : PySem.W.nsIn K mainGlobals "_law_powers_right" = some (some (.ref f_l_powers_right)))
    (l_l_powers_right : K.lookup f_l_powers_right = some ⟨oc_l_powers_right, od_l_powers_right, .func (PySem.W.fnOf "_law_powers_right" "_law_powers_right" (defArgs s_l_powers_right) (defBody s_l_powers_right) (defScope s_l_powers_right) .none kV_l_powers_right dc_l_powers_right pm_l_powers_right an_l_powers_right cd_l_powers_right ct_l_powers_right), sl_l_powers_right⟩)
    (c_l_powers_right : PySem.W.codeIn K cd_l_powers_right "_law_powers_right" = true)
    (k_l_powers_right : PySem.W.keepIn K (.ref f_l_powers_right) = true)
    (g_law : PySem.W.nsIn K mainGlobals "law" = some (some (.ref f_law)))
    (l_law : K.lookup f_law = some ⟨oc_law, od_law, .func (PySem.W.fnOf "law" "law" (defArgs s_law) (defBody s_law) (defScope s_law) .none kV_law dc_law pm_law an_law cd_law ct_law), sl_law⟩)
    (c_law : PySem.W.codeIn K cd_law "law" = true)
    (k_law : PySem.W.keepIn K (.ref f_law) = true)
    (g_C_WalkError : PySem.W.nsIn K mainGlobals "WalkError" = some (some (.ref C_WalkError)))
    (sa_WalkError : PySem.W.findIn K (.ref C_WalkError) "__setattr__" = some (some (.builtin "object.__setattr__")))
    (ex_WalkError : PySem.W.subIn K (.ref C_WalkError) (.type "BaseException") = some true)
    (ty_WalkError : PySem.W.typeIn K (.ref C_WalkError) = some (.type "type"))
    (kc_WalkError : PySem.W.keepIn K (.ref C_WalkError) = true)
    (ga_WalkError : PySem.W.findIn K (.ref C_WalkError) "__getattribute__" = some (some (.builtin "BaseException.__getattribute__")))
    (gg_WalkError : PySem.W.findIn K (.ref C_WalkError) "__getattr__" = some none)
    (hd_WalkError : PySem.W.hasDictIn K C_WalkError = true)
    (ic_WalkError : PySem.W.isClsIn K C_WalkError = true)
    (x_WalkError : K.lookup C_WalkError = some (excClassObj nm_WalkError qn_WalkError C_WalkError NN_WalkError bs_WalkError [.type "ValueError", .type "Exception", .type "BaseException", .type "object"] true sn_WalkError sb_WalkError ab_WalkError co_WalkError dd_WalkError m0_WalkError m1_WalkError m2_WalkError m3_WalkError m5_WalkError "ValueError.__new__"))
    (g_C_BadNumber : PySem.W.nsIn K mainGlobals "BadNumber" = some (some (.ref C_BadNumber)))
    (m_BadNumber_init : PySem.W.findIn K (.ref C_BadNumber) "__init__" = some (some (.ref f_BadNumber_init)))
    (i_BadNumber_init : PySem.W.isFn K (.ref f_BadNumber_init) = true)
    (l_BadNumber_init : K.lookup f_BadNumber_init = some ⟨oc_BadNumber_init, od_BadNumber_init, .func (PySem.W.fnOf "__init__" "BadNumber.__init__" (defArgs s_BadNumber_init) (defBody s_BadNumber_init) (defScope s_BadNumber_init) .none kV_BadNumber_init dc_BadNumber_init pm_BadNumber_init an_BadNumber_init cd_BadNumber_init ct_BadNumber_init), sl_BadNumber_init⟩)
    (c_BadNumber_init : PySem.W.codeIn K cd_BadNumber_init "BadNumber.__init__" = true)
    (k_BadNumber_init : PySem.W.keepIn K (.ref f_BadNumber_init) = true)
    (sa_BadNumber : PySem.W.findIn K (.ref C_BadNumber) "__setattr__" = some (some (.builtin "object.__setattr__")))
    (ex_BadNumber : PySem.W.subIn K (.ref C_BadNumber) (.type "BaseException") = some true)
    (ty_BadNumber : PySem.W.typeIn K (.ref C_BadNumber) = some (.type "type"))
    (kc_BadNumber : PySem.W.keepIn K (.ref C_BadNumber) = true)
    (ga_BadNumber : PySem.W.findIn K (.ref C_BadNumber) "__getattribute__" = some (some (.builtin "BaseException.__getattribute__")))
    (gg_BadNumber : PySem.W.findIn K (.ref C_BadNumber) "__getattr__" = some none)
    (hd_BadNumber : PySem.W.hasDictIn K C_BadNumber = true)
    (ic_BadNumber : PySem.W.isClsIn K C_BadNumber = true)
    (x_BadNumber : K.lookup C_BadNumber = some (excClassObj nm_BadNumber qn_BadNumber C_BadNumber NN_BadNumber bs_BadNumber [.ref C_WalkError, .type "ValueError", .type "Exception", .type "BaseException", .type "object"] true sn_BadNumber sb_BadNumber ab_BadNumber co_BadNumber dd_BadNumber m0_BadNumber m1_BadNumber m2_BadNumber m3_BadNumber m5_BadNumber "ValueError.__new__"))
    (na_BadNumber_value : PySem.W.findIn K (.ref C_BadNumber) "value" = some none)
    (g_C_BadPlace : PySem.W.nsIn K mainGlobals "BadPlace" = some (some (.ref C_BadPlace)))
    (m_BadPlace_init : PySem.W.findIn K (.ref C_BadPlace) "__init__" = some (some (.ref f_BadPlace_init)))
    (i_BadPlace_init : PySem.W.isFn K (.ref f_BadPlace_init) = true)
    (l_BadPlace_init : K.lookup f_BadPlace_init = some ⟨oc_BadPlace_init, od_BadPlace_init, .func (PySem.W.fnOf "__init__" "BadPlace.__init__" (defArgs s_BadPlace_init) (defBody s_BadPlace_init) (defScope s_BadPlace_init) .none kV_BadPlace_init dc_BadPlace_init pm_BadPlace_init an_BadPlace_init cd_BadPlace_init ct_BadPlace_init), sl_BadPlace_init⟩)
    (c_BadPlace_init : PySem.W.codeIn K cd_BadPlace_init "BadPlace.__init__" = true)
    (k_BadPlace_init : PySem.W.keepIn K (.ref f_BadPlace_init) = true)
    (sa_BadPlace : PySem.W.findIn K (.ref C_BadPlace) "__setattr__" = some (some (.builtin "object.__setattr__")))
    (ex_BadPlace : PySem.W.subIn K (.ref C_BadPlace) (.type "BaseException") = some true)
    (ty_BadPlace : PySem.W.typeIn K (.ref C_BadPlace) = some (.type "type"))
    (kc_BadPlace : PySem.W.keepIn K (.ref C_BadPlace) = true)
    (ga_BadPlace : PySem.W.findIn K (.ref C_BadPlace) "__getattribute__" = some (some (.builtin "BaseException.__getattribute__")))
    (gg_BadPlace : PySem.W.findIn K (.ref C_BadPlace) "__getattr__" = some none)
    (hd_BadPlace : PySem.W.hasDictIn K C_BadPlace = true)
    (ic_BadPlace : PySem.W.isClsIn K C_BadPlace = true)
    (x_BadPlace : K.lookup C_BadPlace = some (excClassObj nm_BadPlace qn_BadPlace C_BadPlace NN_BadPlace bs_BadPlace [.ref C_WalkError, .type "ValueError", .type "Exception", .type "BaseException", .type "object"] true sn_BadPlace sb_BadPlace ab_BadPlace co_BadPlace dd_BadPlace m0_BadPlace m1_BadPlace m2_BadPlace m3_BadPlace m5_BadPlace "ValueError.__new__"))
    (na_BadPlace_value : PySem.W.findIn K (.ref C_BadPlace) "value" = some none)
    (g_C_Place : PySem.W.nsIn K mainGlobals "Place" = some (some (.ref C_Place)))
    (pg_Place : PySem.W.plainGet K C_Place Str.empty = true)
    (hd_Place : PySem.W.hasDictIn K C_Place = true)
    (po_Place : PySem.W.plainOver K C_Place = true)
    (sa_Place : PySem.W.findIn K (.ref C_Place) "__setattr__" = some (some (.builtin "object.__setattr__")))
    (ca_Place : PySem.W.findIn K (.ref C_Place) "__class__" = some (some (.builtin "object.__class__")))
    (cm_Place : PySem.W.mroIn K C_Place (.type "object") = some true)
    (na_Place_x : PySem.W.findIn K (.ref C_Place) "x" = some none)
    (na_Place_y : PySem.W.findIn K (.ref C_Place) "y" = some none)
    (na_Place_area : PySem.W.findIn K (.ref C_Place) "area" = some none)
    (m_Place_init : PySem.W.findIn K (.ref C_Place) "__init__" = some (some (.ref f_Place_init)))
    (i_Place_init : PySem.W.isFn K (.ref f_Place_init) = true)
    (l_Place_init : K.lookup f_Place_init = some ⟨oc_Place_init, od_Place_init, .func (PySem.W.fnOf "__init__" "Place.__init__" (defArgs s_Place_init) (defBody s_Place_init) (defScope s_Place_init) .none kV_Place_init dc_Place_init pm_Place_init an_Place_init cd_Place_init ct_Place_init), sl_Place_init⟩)
    (c_Place_init : PySem.W.codeIn K cd_Place_init "Place.__init__" = true)
    (k_Place_init : PySem.W.keepIn K (.ref f_Place_init) = true)
    (mk_Place : PySem.W.makesIn K C_Place = true)
    (kc_Place : PySem.W.keepIn K (.ref C_Place) = true)
    (m_Place_eq : PySem.W.findIn K (.ref C_Place) "__eq__" = some (some (.ref f_Place_eq)))
    (i_Place_eq : PySem.W.isFn K (.ref f_Place_eq) = true)
    (l_Place_eq : K.lookup f_Place_eq = some ⟨oc_Place_eq, od_Place_eq, .func (PySem.W.fnOf "__eq__" "Place.__eq__" (defArgs s_Place_eq) (defBody s_Place_eq) (defScope s_Place_eq) .none kV_Place_eq dc_Place_eq pm_Place_eq an_Place_eq cd_Place_eq ct_Place_eq), sl_Place_eq⟩)
    (c_Place_eq : PySem.W.codeIn K cd_Place_eq "Place.__eq__" = true)
    (k_Place_eq : PySem.W.keepIn K (.ref f_Place_eq) = true)
    (ne_Place : PySem.W.findIn K (.ref C_Place) "__ne__" = some (some (.builtin "object.__ne__")))
    (m_Place_mul : PySem.W.findIn K (.ref C_Place) "__mul__" = some (some (.ref f_Place_mul)))
    (i_Place_mul : PySem.W.isFn K (.ref f_Place_mul) = true)
    (l_Place_mul : K.lookup f_Place_mul = some ⟨oc_Place_mul, od_Place_mul, .func (PySem.W.fnOf "__mul__" "Place.__mul__" (defArgs s_Place_mul) (defBody s_Place_mul) (defScope s_Place_mul) .none kV_Place_mul dc_Place_mul pm_Place_mul an_Place_mul cd_Place_mul ct_Place_mul), sl_Place_mul⟩)
    (c_Place_mul : PySem.W.codeIn K cd_Place_mul "Place.__mul__" = true)
    (k_Place_mul : PySem.W.keepIn K (.ref f_Place_mul) = true)
    (sf_Place_Mult : PySem.W.selfFirst K C_Place = true)
    (ro_Place_Mult : PySem.W.findIn K (.ref C_Place) (PySem.dunderR (Operator.info .Mult).2) = some none)
    (m_Place_invert : PySem.W.findIn K (.ref C_Place) "__invert__" = some (some (.ref f_Place_invert)))
    (i_Place_invert : PySem.W.isFn K (.ref f_Place_invert) = true)
    (l_Place_invert : K.lookup f_Place_invert = some ⟨oc_Place_invert, od_Place_invert, .func (PySem.W.fnOf "__invert__" "Place.__invert__" (defArgs s_Place_invert) (defBody s_Place_invert) (defScope s_Place_invert) .none kV_Place_invert dc_Place_invert pm_Place_invert an_Place_invert cd_Place_invert ct_Place_invert), sl_Place_invert⟩)
    (c_Place_invert : PySem.W.codeIn K cd_Place_invert "Place.__invert__" = true)
    (k_Place_invert : PySem.W.keepIn K (.ref f_Place_invert) = true)
    (m_Place_power : PySem.W.findIn K (.ref C_Place) "power" = some (some (.ref f_Place_power)))
    (i_Place_power : PySem.W.isFn K (.ref f_Place_power) = true)
    (l_Place_power : K.lookup f_Place_power = some ⟨oc_Place_power, od_Place_power, .func (PySem.W.fnOf "power" "Place.power" (defArgs s_Place_power) (defBody s_Place_power) (defScope s_Place_power) .none kV_Place_power dc_Place_power pm_Place_power an_Place_power cd_Place_power ct_Place_power), sl_Place_power⟩)
    (c_Place_power : PySem.W.codeIn K cd_Place_power "Place.power" = true)
    (k_Place_power : PySem.W.keepIn K (.ref f_Place_power) = true)
    (m_Place_is_home : PySem.W.findIn K (.ref C_Place) "is_home" = some (some (.ref f_Place_is_home)))
    (i_Place_is_home : PySem.W.isFn K (.ref f_Place_is_home) = true)
    (l_Place_is_home : K.lookup f_Place_is_home = some ⟨oc_Place_is_home, od_Place_is_home, .func (PySem.W.fnOf "is_home" "Place.is_home" (defArgs s_Place_is_home) (defBody s_Place_is_home) (defScope s_Place_is_home) .none kV_Place_is_home dc_Place_is_home pm_Place_is_home an_Place_is_home cd_Place_is_home ct_Place_is_home), sl_Place_is_home⟩)
    (c_Place_is_home : PySem.W.codeIn K cd_Place_is_home "Place.is_home" = true)
    (k_Place_is_home : PySem.W.keepIn K (.ref f_Place_is_home) = true)
    (m_Place_lifted : PySem.W.findIn K (.ref C_Place) "lifted" = some (some (.ref f_Place_lifted)))
    (i_Place_lifted : PySem.W.isFn K (.ref f_Place_lifted) = true)
    (l_Place_lifted : K.lookup f_Place_lifted = some ⟨oc_Place_lifted, od_Place_lifted, .func (PySem.W.fnOf "lifted" "Place.lifted" (defArgs s_Place_lifted) (defBody s_Place_lifted) (defScope s_Place_lifted) .none kV_Place_lifted dc_Place_lifted pm_Place_lifted an_Place_lifted cd_Place_lifted ct_Place_lifted), sl_Place_lifted⟩)
    (c_Place_lifted : PySem.W.codeIn K cd_Place_lifted "Place.lifted" = true)
    (k_Place_lifted : PySem.W.keepIn K (.ref f_Place_lifted) = true)
    (m_Place_twist : PySem.W.findIn K (.ref C_Place) "twist" = some (some (.ref f_Place_twist)))
    (i_Place_twist : PySem.W.isFn K (.ref f_Place_twist) = true)
    (l_Place_twist : K.lookup f_Place_twist = some ⟨oc_Place_twist, od_Place_twist, .func (PySem.W.fnOf "twist" "Place.twist" (defArgs s_Place_twist) (defBody s_Place_twist) (defScope s_Place_twist) .none kV_Place_twist dc_Place_twist pm_Place_twist an_Place_twist cd_Place_twist ct_Place_twist), sl_Place_twist⟩)
    (c_Place_twist : PySem.W.codeIn K cd_Place_twist "Place.twist" = true)
    (k_Place_twist : PySem.W.keepIn K (.ref f_Place_twist) = true)
    (cn : PySem.W.specialIn K (.builtin "object.__class__") "__get__" = some (some (.builtin "getset_descriptor.__get__")))
    (ct : PySem.W.takesIn K (.builtin "object.__class__") = some true)
    (io_Place_int : PySem.W.kitOne K (.ref C_Place) (.type "int") = some false)
    (io_Place_bool : PySem.W.kitOne K (.ref C_Place) (.type "bool") = some false)
    (is_NoneType_Place : PySem.W.kitOne K (.type "NoneType") (.ref C_Place) = some false)
    (sb_NoneType_Place : PySem.W.subIn K (.type "NoneType") (.ref C_Place) = some false)
    (is_bool_Place : PySem.W.kitOne K (.type "bool") (.ref C_Place) = some false)
    (sb_bool_Place : PySem.W.subIn K (.type "bool") (.ref C_Place) = some false)
    (is_int_Place : PySem.W.kitOne K (.type "int") (.ref C_Place) = some false)
    (sb_int_Place : PySem.W.subIn K (.type "int") (.ref C_Place) = some false)
    (is_str_Place : PySem.W.kitOne K (.type "str") (.ref C_Place) = some false)
    (sb_str_Place : PySem.W.subIn K (.type "str") (.ref C_Place) = some false)
    (is_list_Place : PySem.W.kitOne K (.type "list") (.ref C_Place) = some false)
    (sb_list_Place : PySem.W.subIn K (.type "list") (.ref C_Place) = some false)
    (is_tuple_Place : PySem.W.kitOne K (.type "tuple") (.ref C_Place) = some false)
    (sb_tuple_Place : PySem.W.subIn K (.type "tuple") (.ref C_Place) = some false)
    (is_dict_Place : PySem.W.kitOne K (.type "dict") (.ref C_Place) = some false)
    (sb_dict_Place : PySem.W.subIn K (.type "dict") (.ref C_Place) = some false)
    (em_BadNumber_BadNumber : PySem.W.exmOne K (.ref C_BadNumber) (.ref C_BadNumber) = some true)
    (em_BadPlace_BadNumber : PySem.W.exmOne K (.ref C_BadPlace) (.ref C_BadNumber) = some false)
    (em_BadNumber_BadPlace : PySem.W.exmOne K (.ref C_BadNumber) (.ref C_BadPlace) = some false)
    (em_BadPlace_BadPlace : PySem.W.exmOne K (.ref C_BadPlace) (.ref C_BadPlace) = some true)
    (em_BadNumber_WalkError : PySem.W.exmOne K (.ref C_BadNumber) (.ref C_WalkError) = some true)
    (em_BadPlace_WalkError : PySem.W.exmOne K (.ref C_BadPlace) (.ref C_WalkError) = some true)
    (n_all : PySem.W.nsIn K mainGlobals "all" = some none)
    (n_bool : PySem.W.nsIn K mainGlobals "bool" = some none)
    (n_int : PySem.W.nsIn K mainGlobals "int" = some none)
    (n_isinstance : PySem.W.nsIn K mainGlobals "isinstance" = some none)
    (n_len : PySem.W.nsIn K mainGlobals "len" = some none)
    (n_list : PySem.W.nsIn K mainGlobals "list" = some none)
    (n_min : PySem.W.nsIn K mainGlobals "min" = some none)
    (n_range : PySem.W.nsIn K mainGlobals "range" = some none) {goal : Prop} (kk : ∀ T : Tx K mg, T.a_law = fa → T.pt_l_refusals_right = pt_l_refusals_right → goal) : goal := by
  refine kk { a_is_integer := (f_is_integer), d_is_integer := (_), F_is_integer := (fun_mk (st := s_is_integer) l_is_integer c_is_integer k_is_integer), b_is_integer := ((fun_mk (st := s_is_integer) l_is_integer c_is_integer k_is_integer).binds (ps := P_is_integer) fun _ _ _ _ _ _ us hl => match us, hl with | [_], _ => rfl), g_is_integer := (PySem.W.mg_of X G g_is_integer), a_check_integer := (f_check_integer), d_check_integer := (_), F_check_integer := (fun_mk (st := s_check_integer) l_check_integer c_check_integer k_check_integer), b_check_integer := ((fun_mk (st := s_check_integer) l_check_integer c_check_integer k_check_integer).binds (ps := P_check_integer) fun _ _ _ _ _ _ us hl => match us, hl with | [_], _ => rfl), g_check_integer := (PySem.W.mg_of X G g_check_integer), a_check_place := (f_check_place), d_check_place := (_), F_check_place := (fun_mk (st := s_check_place) l_check_place c_check_place k_check_place), b_check_place := ((fun_mk (st := s_check_place) l_check_place c_check_place k_check_place).binds (ps := P_check_place) fun _ _ _ _ _ _ us hl => match us, hl with | [_], _ => rfl), g_check_place := (PySem.W.mg_of X G g_check_place), a_home_place := (f_home_place), d_home_place := (_), F_home_place := (fun_mk (st := s_home_place) l_home_place c_home_place k_home_place), b_home_place := ((fun_mk (st := s_home_place) l_home_place c_home_place k_home_place).binds (ps := P_home_place) fun _ _ _ _ _ _ us hl => match us, hl with | [], _ => rfl), g_home_place := (PySem.W.mg_of X G g_home_place), a_product_of := (f_product_of), d_product_of := (_), F_product_of := (fun_mk (st := s_product_of) l_product_of c_product_of k_product_of), b_product_of := ((fun_mk (st := s_product_of) l_product_of c_product_of k_product_of).binds (ps := P_product_of) fun _ _ _ _ _ _ us hl => match us, hl with | [_], _ => rfl), g_product_of := (PySem.W.mg_of X G g_product_of), a_l_pen := (f_l_pen), d_l_pen := (_), F_l_pen := (fun_mk (st := s_l_pen) l_l_pen c_l_pen k_l_pen), b_l_pen := ((fun_mk (st := s_l_pen) l_l_pen c_l_pen k_l_pen).binds (ps := P_l_pen) fun _ _ _ _ _ _ us hl => match us, hl with | [_], _ => rfl), g_l_pen := (PySem.W.mg_of X G g_l_pen), a_l_draw := (f_l_draw), d_l_draw := (_), F_l_draw := (fun_mk (st := s_l_draw) l_l_draw c_l_draw k_l_draw), b_l_draw := ((fun_mk (st := s_l_draw) l_l_draw c_l_draw k_l_draw).binds (ps := P_l_draw) fun _ _ _ _ _ _ us hl => match us, hl with | [_, _], _ => rfl), g_l_draw := (PySem.W.mg_of X G g_l_draw), a_l_pick := (f_l_pick), d_l_pick := (_), F_l_pick := (fun_mk (st := s_l_pick) l_l_pick c_l_pick k_l_pick), b_l_pick := ((fun_mk (st := s_l_pick) l_l_pick c_l_pick k_l_pick).binds (ps := P_l_pick) fun _ _ _ _ _ _ us hl => match us, hl with | [_, _], _ => rfl), g_l_pick := (PySem.W.mg_of X G g_l_pick), a_l_big := (f_l_big), d_l_big := (_), F_l_big := (fun_mk (st := s_l_big) l_l_big c_l_big k_l_big), b_l_big := ((fun_mk (st := s_l_big) l_l_big c_l_big k_l_big).binds (ps := P_l_big) fun _ _ _ _ _ _ us hl => match us, hl with | [_, _], _ => rfl), g_l_big := (PySem.W.mg_of X G g_l_big), a_l_whole := (f_l_whole), d_l_whole := (_), F_l_whole := (fun_mk (st := s_l_whole) l_l_whole c_l_whole k_l_whole), b_l_whole := ((fun_mk (st := s_l_whole) l_l_whole c_l_whole k_l_whole).binds (ps := P_l_whole) fun _ _ _ _ _ _ us hl => match us, hl with | [_, _], _ => rfl), g_l_whole := (PySem.W.mg_of X G g_l_whole), a_l_place := (f_l_place), d_l_place := (_), F_l_place := (fun_mk (st := s_l_place) l_l_place c_l_place k_l_place), b_l_place := ((fun_mk (st := s_l_place) l_l_place c_l_place k_l_place).binds (ps := P_l_place) fun _ _ _ _ _ _ us hl => match us, hl with | [_, _], _ => rfl), g_l_place := (PySem.W.mg_of X G g_l_place), a_l_step := (f_l_step), d_l_step := (_), F_l_step := (fun_mk (st := s_l_step) l_l_step c_l_step k_l_step), b_l_step := ((fun_mk (st := s_l_step) l_l_step c_l_step k_l_step).binds (ps := P_l_step) fun _ _ _ _ _ _ us hl => match us, hl with | [_], _ => rfl), g_l_step := (PySem.W.mg_of X G g_l_step), a_l_swept := (f_l_swept), d_l_swept := (_), F_l_swept := (fun_mk (st := s_l_swept) l_l_swept c_l_swept k_l_swept), b_l_swept := ((fun_mk (st := s_l_swept) l_l_swept c_l_swept k_l_swept).binds (ps := P_l_swept) fun _ _ _ _ _ _ us hl => match us, hl with | [_], _ => rfl), g_l_swept := (PySem.W.mg_of X G g_l_swept), a_l_refused := (f_l_refused), d_l_refused := (_), F_l_refused := (fun_mk (st := s_l_refused) l_l_refused c_l_refused k_l_refused), b_l_refused := ((fun_mk (st := s_l_refused) l_l_refused c_l_refused k_l_refused).binds (ps := P_l_refused) fun _ _ _ _ _ _ us hl => match us, hl with | [_], _ => rfl), g_l_refused := (PySem.W.mg_of X G g_l_refused), a_l_same := (f_l_same), d_l_same := (_), F_l_same := (fun_mk (st := s_l_same) l_l_same c_l_same k_l_same), b_l_same := ((fun_mk (st := s_l_same) l_l_same c_l_same k_l_same).binds (ps := P_l_same) fun _ _ _ _ _ _ us hl => match us, hl with | [_, _], _ => rfl), g_l_same := (PySem.W.mg_of X G g_l_same), a_l_refusals_right := (f_l_refusals_right), d_l_refusals_right := (_), cc_l_refusals_right := (cc_l_refusals_right), pt_l_refusals_right := (pt_l_refusals_right), h_l_refusals_right := (h_l_refusals_right), n_l_refusals_right := (n_l_refusals_right), FC_l_refusals_right := (⟨⟨_, _, _, _, _, _, _, _, rfl, l_l_refusals_right, c_l_refusals_right⟩, k_l_refusals_right⟩), F_l_refusals_right := (fun_mk (st := s_l_refusals_right) l_l_refusals_right c_l_refusals_right k_l_refusals_right), b_l_refusals_right := ((fun_mk (st := s_l_refusals_right) l_l_refusals_right c_l_refusals_right k_l_refusals_right).binds (ps := P_l_refusals_right) fun _ _ _ _ _ _ us hl => match us, hl with | [_, _], _ => rfl), g_l_refusals_right := (PySem.W.mg_of X G g_l_refusals_right), a_l_powers_right := (f_l_powers_right), d_l_powers_right := (_), F_l_powers_right := (fun_mk (st := s_l_powers_right) l_l_powers_right c_l_powers_right k_l_powers_right), b_l_powers_right := ((fun_mk (st := s_l_powers_right) l_l_powers_right c_l_powers_right k_l_powers_right).binds (ps := P_l_powers_right) fun _ _ _ _ _ _ us hl => match us, hl with | [_, _], _ => rfl), g_l_powers_right := (PySem.W.mg_of X G g_l_powers_right), a_law := (f_law), d_law := (_), F_law := (fun_mk (st := s_law) l_law c_law k_law), b_law := ((fun_mk (st := s_law) l_law c_law k_law).binds (ps := P_law) fun _ _ _ _ _ _ us hl => match us, hl with | [_], _ => rfl), g_law := (PySem.W.mg_of X G g_law), C_WalkError := (C_WalkError), g_C_WalkError := (PySem.W.mg_of X G g_C_WalkError), X_WalkError := (⟨⟨nm_WalkError, qn_WalkError, NN_WalkError, bs_WalkError, _, sn_WalkError, sb_WalkError, ab_WalkError, co_WalkError, dd_WalkError, m0_WalkError, m1_WalkError, m2_WalkError, m3_WalkError, m5_WalkError, x_WalkError, rfl⟩, sa_WalkError, ex_WalkError, ty_WalkError, kc_WalkError⟩), Y_WalkError := (⟨ga_WalkError, gg_WalkError, ex_WalkError, hd_WalkError⟩), C_BadNumber := (C_BadNumber), g_C_BadNumber := (PySem.W.mg_of X G g_C_BadNumber), a_BadNumber_init := (f_BadNumber_init), d_BadNumber_init := (_), F_BadNumber_init := (fun_mk (st := s_BadNumber_init) l_BadNumber_init c_BadNumber_init k_BadNumber_init), b_BadNumber_init := ((fun_mk (st := s_BadNumber_init) l_BadNumber_init c_BadNumber_init k_BadNumber_init).binds (ps := P_BadNumber_init) fun _ _ _ _ _ _ us hl => match us, hl with | [_, _], _ => rfl), X_BadNumber := (⟨⟨nm_BadNumber, qn_BadNumber, NN_BadNumber, bs_BadNumber, _, sn_BadNumber, sb_BadNumber, ab_BadNumber, co_BadNumber, dd_BadNumber, m0_BadNumber, m1_BadNumber, m2_BadNumber, m3_BadNumber, m5_BadNumber, x_BadNumber, rfl⟩, sa_BadNumber, ex_BadNumber, ty_BadNumber, kc_BadNumber⟩), Y_BadNumber := (⟨ga_BadNumber, gg_BadNumber, ex_BadNumber, hd_BadNumber⟩), ei_BadNumber := (m_BadNumber_init), et_BadNumber := (beq_iff_eq.mp i_BadNumber_init), na_BadNumber_value := (na_BadNumber_value), C_BadPlace := (C_BadPlace), g_C_BadPlace := (PySem.W.mg_of X G g_C_BadPlace), a_BadPlace_init := (f_BadPlace_init), d_BadPlace_init := (_), F_BadPlace_init := (fun_mk (st := s_BadPlace_init) l_BadPlace_init c_BadPlace_init k_BadPlace_init), b_BadPlace_init := ((fun_mk (st := s_BadPlace_init) l_BadPlace_init c_BadPlace_init k_BadPlace_init).binds (ps := P_BadPlace_init) fun _ _ _ _ _ _ us hl => match us, hl with | [_, _], _ => rfl), X_BadPlace := (⟨⟨nm_BadPlace, qn_BadPlace, NN_BadPlace, bs_BadPlace, _, sn_BadPlace, sb_BadPlace, ab_BadPlace, co_BadPlace, dd_BadPlace, m0_BadPlace, m1_BadPlace, m2_BadPlace, m3_BadPlace, m5_BadPlace, x_BadPlace, rfl⟩, sa_BadPlace, ex_BadPlace, ty_BadPlace, kc_BadPlace⟩), Y_BadPlace := (⟨ga_BadPlace, gg_BadPlace, ex_BadPlace, hd_BadPlace⟩), ei_BadPlace := (m_BadPlace_init), et_BadPlace := (beq_iff_eq.mp i_BadPlace_init), na_BadPlace_value := (na_BadPlace_value), C_Place := (C_Place), g_C_Place := (PySem.W.mg_of X G g_C_Place), cl_Place := (⟨pg_Place, hd_Place, po_Place, sa_Place⟩), ca_Place := (ca_Place), cm_Place := (cm_Place), na_Place_x := (na_Place_x), na_Place_y := (na_Place_y), na_Place_area := (na_Place_area), a_Place_init := (f_Place_init), d_Place_init := (_), F_Place_init := (fun_mk (st := s_Place_init) l_Place_init c_Place_init k_Place_init), b_Place_init := ((fun_mk (st := s_Place_init) l_Place_init c_Place_init k_Place_init).binds (ps := P_Place_init) fun _ _ _ _ _ _ us hl => match us, hl with | [_, _, _, _], _ => rfl), M_Place := (⟨mk_Place, m_Place_init, i_Place_init, kc_Place⟩), a_Place_eq := (f_Place_eq), d_Place_eq := (_), F_Place_eq := (fun_mk (st := s_Place_eq) l_Place_eq c_Place_eq k_Place_eq), b_Place_eq := ((fun_mk (st := s_Place_eq) l_Place_eq c_Place_eq k_Place_eq).binds (ps := P_Place_eq) fun _ _ _ _ _ _ us hl => match us, hl with | [_, _], _ => rfl), E_Place := (⟨m_Place_eq, i_Place_eq, ne_Place, cm_Place⟩), a_Place_mul := (f_Place_mul), d_Place_mul := (_), F_Place_mul := (fun_mk (st := s_Place_mul) l_Place_mul c_Place_mul k_Place_mul), b_Place_mul := ((fun_mk (st := s_Place_mul) l_Place_mul c_Place_mul k_Place_mul).binds (ps := P_Place_mul) fun _ _ _ _ _ _ us hl => match us, hl with | [_, _], _ => rfl), O_Place_Mult := (⟨sf_Place_Mult, m_Place_mul, ro_Place_Mult, i_Place_mul⟩), a_Place_invert := (f_Place_invert), d_Place_invert := (_), F_Place_invert := (fun_mk (st := s_Place_invert) l_Place_invert c_Place_invert k_Place_invert), b_Place_invert := ((fun_mk (st := s_Place_invert) l_Place_invert c_Place_invert k_Place_invert).binds (ps := P_Place_invert) fun _ _ _ _ _ _ us hl => match us, hl with | [_], _ => rfl), m_Place_invert := (m_Place_invert), i_Place_invert := (i_Place_invert), a_Place_power := (f_Place_power), d_Place_power := (_), F_Place_power := (fun_mk (st := s_Place_power) l_Place_power c_Place_power k_Place_power), b_Place_power := ((fun_mk (st := s_Place_power) l_Place_power c_Place_power k_Place_power).binds (ps := P_Place_power) fun _ _ _ _ _ _ us hl => match us, hl with | [_, _], _ => rfl), M_Place_power := (⟨m_Place_power, i_Place_power, k_Place_power⟩), a_Place_is_home := (f_Place_is_home), d_Place_is_home := (_), F_Place_is_home := (fun_mk (st := s_Place_is_home) l_Place_is_home c_Place_is_home k_Place_is_home), b_Place_is_home := ((fun_mk (st := s_Place_is_home) l_Place_is_home c_Place_is_home k_Place_is_home).binds (ps := P_Place_is_home) fun _ _ _ _ _ _ us hl => match us, hl with | [_], _ => rfl), M_Place_is_home := (⟨m_Place_is_home, i_Place_is_home, k_Place_is_home⟩), a_Place_lifted := (f_Place_lifted), d_Place_lifted := (_), F_Place_lifted := (fun_mk (st := s_Place_lifted) l_Place_lifted c_Place_lifted k_Place_lifted), b_Place_lifted := ((fun_mk (st := s_Place_lifted) l_Place_lifted c_Place_lifted k_Place_lifted).binds (ps := P_Place_lifted) fun _ _ _ _ _ _ us hl => match us, hl with | [_, _], _ => rfl), M_Place_lifted := (⟨m_Place_lifted, i_Place_lifted, k_Place_lifted⟩), a_Place_twist := (f_Place_twist), d_Place_twist := (_), F_Place_twist := (fun_mk (st := s_Place_twist) l_Place_twist c_Place_twist k_Place_twist), b_Place_twist := ((fun_mk (st := s_Place_twist) l_Place_twist c_Place_twist k_Place_twist).binds (ps := P_Place_twist) fun _ _ _ _ _ _ us hl => match us, hl with | [_, _], _ => rfl), M_Place_twist := (⟨m_Place_twist, i_Place_twist, k_Place_twist⟩), cn := (cn), ct := (ct), io_Place_int := (io_Place_int), io_Place_bool := (io_Place_bool), is_NoneType_Place := (is_NoneType_Place), sb_NoneType_Place := (sb_NoneType_Place), is_bool_Place := (is_bool_Place), sb_bool_Place := (sb_bool_Place), is_int_Place := (is_int_Place), sb_int_Place := (sb_int_Place), is_str_Place := (is_str_Place), sb_str_Place := (sb_str_Place), is_list_Place := (is_list_Place), sb_list_Place := (sb_list_Place), is_tuple_Place := (is_tuple_Place), sb_tuple_Place := (sb_tuple_Place), is_dict_Place := (is_dict_Place), sb_dict_Place := (sb_dict_Place), em_BadNumber_BadNumber := (em_BadNumber_BadNumber), em_BadPlace_BadNumber := (em_BadPlace_BadNumber), em_BadNumber_BadPlace := (em_BadNumber_BadPlace), em_BadPlace_BadPlace := (em_BadPlace_BadPlace), em_BadNumber_WalkError := (em_BadNumber_WalkError), em_BadPlace_WalkError := (em_BadPlace_WalkError), n_all := (PySem.W.mg_none_of X G n_all), n_bool := (PySem.W.mg_none_of X G n_bool), n_int := (PySem.W.mg_none_of X G n_int), n_isinstance := (PySem.W.mg_none_of X G n_isinstance), n_len := (PySem.W.mg_none_of X G n_len), n_list := (PySem.W.mg_none_of X G n_list), n_min := (PySem.W.mg_none_of X G n_min), n_range := (PySem.W.mg_none_of X G n_range) } ?_ rfl
  have e := hfa.symm.trans (PySem.W.mg_of X G g_law)
  cases e
  rfl
end AW

set_option linter.all false
set_option maxRecDepth 100000
set_option maxHeartbeats 4000000
namespace AW
open PySem PySem.Spec PyProof.Rows L2
/-! ### what values there are -/
section
variable {K : PySem.W.Frag} {mg : Str → Option Value}
/-- the type of a value of the law's -/
def TyT (T : Tx K mg) (t : Value) : Prop := t = .ref T.C_Place ∨ t = .type "NoneType" ∨ t = .type "bool" ∨ t = .type "int" ∨ t = .type "str" ∨ t = .type "list" ∨ t = .type "tuple" ∨ t = .type "dict"
def isI (t : Value) : Bool := t == .type "int" || t == .type "bool"
def isB (t : Value) : Bool := t == .type "bool"
def isP (T : Tx K mg) (t : Value) : Bool := t == .ref T.C_Place
theorem kit_int (T : Tx K mg) {t : Value} (h : TyT T t) : PySem.W.kitOne K t (.type "int") = some (isI t) := by
  rcases h with rfl | rfl | rfl | rfl | rfl | rfl | rfl | rfl
  · exact T.io_Place_int
  all_goals exact kit_ty (by decide +kernel)
theorem kit_bool (T : Tx K mg) {t : Value} (h : TyT T t) : PySem.W.kitOne K t (.type "bool") = some (isB t) := by
  rcases h with rfl | rfl | rfl | rfl | rfl | rfl | rfl | rfl
  · exact T.io_Place_bool
  all_goals exact kit_ty (by decide +kernel)
theorem kit_self {t : Value} : PySem.W.kitOne K t t = some true := by
  unfold PySem.W.kitOne
  rw [if_pos (by simp)]
theorem kit_place (T : Tx K mg) {t : Value} (h : TyT T t) : PySem.W.kitOne K t (.ref T.C_Place) = some (isP T t) := by
  rcases h with rfl | rfl | rfl | rfl | rfl | rfl | rfl | rfl
  · rw [kit_self]; simp [isP]
  · exact T.is_NoneType_Place
  · exact T.is_bool_Place
  · exact T.is_int_Place
  · exact T.is_str_Place
  · exact T.is_list_Place
  · exact T.is_tuple_Place
  · exact T.is_dict_Place
def intV : V → Bool
  | .int _ => true
  | _ => false
theorem intV_of {H : Hp} {v : V} {t : Value} (ty : TyX K H v t) : (isI t && !isB t) = intV v := by
  cases ty with
  | base b => cases b <;> first | rfl | (simp [isI, isB, intV])
  | _ => rfl
/-- a value of the law's, in the heap H -/
def Vl (T : Tx K mg) (H : Hp) (v : V) : Prop := ∃ t, TyX K H v t ∧ TyT T t
theorem TyOf.mono {H H' : Hp} {v : V} {t : Value} (s : Same H H') (h : TyOf K H v t) : TyOf K H' v t := by
  cases h with
  | non => exact .non
  | bl x => exact .bl x
  | int i => exact .int i
  | str x => exact .str x
  | flt x => exact .flt x
  | lst e => exact .lst (s _ _ e)
  | frz e => exact .frz (s _ _ e)
  | tup e => exact .tup (s _ _ e)
  | dK e => exact .dK (s _ _ e)
  | dT e => exact .dT (s _ _ e)
  | ins e cl ha hn htk hm => exact .ins (s _ _ e) cl ha hn htk hm
theorem TyX.mono {H H' : Hp} {v : V} {t : Value} (s : Same H H') (h : TyX K H v t) : TyX K H' v t := by
  cases h with
  | base b => exact .base (TyOf.mono s b)
  | byt b => exact .byt b
  | set e => exact .set (s _ _ e)
  | kList e c => exact .kList e c
  | kTuple e c => exact .kTuple e c
  | kDict e c => exact .kDict e c
  | fTuple e => exact .fTuple (s _ _ e)
  | fDict e => exact .fDict (s _ _ e)
theorem Vl.mono {T : Tx K mg} {H H' : Hp} {v : V} (s : Same H H') (h : Vl T H v) : Vl T H' v := let ⟨t, a, b⟩ := h; ⟨t, TyX.mono s a, b⟩
theorem Vl.int {T : Tx K mg} {H : Hp} (i : Int) : Vl T H (.int i) := ⟨_, .base (.int i), .inr (.inr (.inr (.inl rfl)))⟩
theorem Vl.non {T : Tx K mg} {H : Hp} : Vl T H .non := ⟨_, .base .non, .inr (.inl rfl)⟩
theorem Vl.bl {T : Tx K mg} {H : Hp} (b : Bool) : Vl T H (.bl b) := ⟨_, .base (.bl b), .inr (.inr (.inl rfl))⟩
theorem Vl.str {T : Tx K mg} {H : Hp} (b : Str) : Vl T H (.str b) := ⟨_, .base (.str b), .inr (.inr (.inr (.inr (.inl rfl))))⟩
theorem Vl.lst {T : Tx K mg} {H : Hp} {a : Addr} {xs : List V} (e : H a = some (.lst xs)) : Vl T H (.ref a) := ⟨_, .base (.lst e), .inr (.inr (.inr (.inr (.inr (.inl rfl)))))⟩
theorem Vl.tup {T : Tx K mg} {H : Hp} {a : Addr} {xs : List V} (e : H a = some (.tup xs)) : Vl T H (.ref a) := ⟨_, .base (.tup e), .inr (.inr (.inr (.inr (.inr (.inr (.inl rfl))))))⟩
theorem Vl.dct {T : Tx K mg} {H : Hp} {a : Addr} {xs : List (Key × V)} (e : H a = some (.dK xs)) : Vl T H (.ref a) := ⟨_, .base (.dK e), .inr (.inr (.inr (.inr (.inr (.inr (.inr rfl))))))⟩
/-! ### places -/
theorem kxy : ¬ (("x" : Str) = "y") := by decide +kernel
theorem kxa : ¬ (("x" : Str) = "area") := by decide +kernel
theorem kya : ¬ (("y" : Str) = "area") := by decide +kernel
def flds (x y a : Int) : List (Str × V) := [("x", .int x), ("y", .int y), ("area", .int a)]
theorem flds_x (x y a : Int) : (flds x y a).lookup ("x" : Str) = some (.int x) := by simp [flds, List.lookup]
theorem flds_y (x y a : Int) : (flds x y a).lookup ("y" : Str) = some (.int y) := by
  have h : (("y" : Str) == "x") = false := by decide +kernel
  simp [flds, List.lookup, h]
theorem flds_a (x y a : Int) : (flds x y a).lookup ("area" : Str) = some (.int a) := by
  have h : (("area" : Str) == "x") = false := by decide +kernel
  have h2 : (("area" : Str) == "y") = false := by decide +kernel
  simp [flds, List.lookup, h, h2]
theorem flds_no (x y a : Int) {m : Str} (h1 : (m == ("x" : Str)) = false) (h2 : (m == ("y" : Str)) = false) (h3 : (m == ("area" : Str)) = false) : (flds x y a).lookup m = none := by simp [flds, List.lookup, h1, h2, h3]
/-- a Place (x, y, a) at p -/
def PlAt (T : Tx K mg) (H : Hp) (p : Addr) (x y a : Int) : Prop := ∃ dx, H p = some (.ins T.C_Place dx (flds x y a))
theorem PlAt.mono {T : Tx K mg} {H H' : Hp} {p : Addr} {x y a : Int} (s : Same H H') (h : PlAt T H p x y a) : PlAt T H' p x y a := let ⟨dx, e⟩ := h; ⟨dx, s _ _ e⟩
theorem PlAt.ty {T : Tx K mg} {H : Hp} {p : Addr} {x y a : Int} (h : PlAt T H p x y a) : TyX K H (.ref p) (.ref T.C_Place) := let ⟨_, e⟩ := h; .base (.ins e T.cl_Place T.ca_Place T.cn T.ct T.cm_Place)
theorem PlAt.vl {T : Tx K mg} {H : Hp} {p : Addr} {x y a : Int} (h : PlAt T H p x y a) : Vl T H (.ref p) := ⟨_, h.ty, .inl rfl⟩
theorem Same.laid {H : Hp} {p : Addr} {o : HO} (h : H p = none) : Same H (upd H p o) := fun b u e => by rw [upd_ne (ne_of_none e h)]; exact e
theorem Same.after {H H1 : Hp} {p : Addr} {o : HO} (s : Same H H1) (h : H1 p = none) : Same H (upd H1 p o) := s.trans (Same.laid h)
end
end AW

set_option linter.all false
set_option maxRecDepth 100000
set_option maxHeartbeats 4000000
namespace AW
open PySem PySem.Spec PyProof.Rows L2
section
variable {P : Program} {w : World} {K : PySem.W.Frag} {mg : Str → Option Value} {base : Heap}
/-- what an own error of a base def lets out, by the def's own wish -/
theorem passE {X : Cx} {E : XK} {E₁ : Value → Shared → Prop} (hs : X.stack = X.env :: X.outer := by rfl) (hf : X.env.frame = some X.env.locals := by rfl) (hex : X.ex = [] := by rfl)
    (hx : X.xe = fun e s' => wpAny (model X.prog X.w) X.A (leaving X.env e) (fun _ s'' => L2.CX X.prog X.w X.outer X.H_0 X.s_0 E e s'') E₁ s' := by rfl) : Passes (L2.CX X.prog X.w) X E :=
  passes_call (takes_of hs hf hex hx) (fun _ _ _ _ h => h)
def sp_is_integer (T : Tx K mg) : Sp := fun vs H Q _ => ∃ v, vs = [v] ∧ Vl T H v ∧ Q (.bl (intV v)) H
theorem ok_is_integer (T : Tx K mg) : FnOk P w K mg base (L2.CX P w) 1 T.a_is_integer T.d_is_integer P_is_integer (sp_is_integer T) := by
  refine T.F_is_integer.okX sc_is_integer (fun vs H Q E h => ?_) (fun cdv A outer s H vs Q E hr h => ?_)
  · obtain ⟨v, rfl, _⟩ := h
    rfl
  · obtain ⟨v, rfl, ⟨t, ty, hv⟩, k⟩ := h
    refine ⟨_, pss_one (ps_ret (pe_and (pe_callB call_isi rfl T.n_isinstance (by decide +kernel) (pa_cons (pv 0) (pa_cons (pe_bltn (v := .ty "int") rfl T.n_int (by decide +kernel) rfl) pa_nil)))
      (pe_one (pe_not (pe_callB call_isi rfl T.n_isinstance (by decide +kernel) (pa_cons (pv 0) (pa_cons (pe_bltn (v := .ty "bool") rfl T.n_bool (by decide +kernel) rfl) pa_nil))))))), ?_⟩
    refine ⟨_, rfl, v, .ty "int", t, _, isI t, rfl, .ty _, ty, kit_int T hv, _, rfl, ?_⟩
    cases hi : isI t with
    | false =>
      refine iteF ?_
      have e := intV_of ty
      rw [hi] at e
      have e' : intV v = false := by rw [← e] <;> rfl
      rw [e'] at k
      exact k
    | true =>
      refine iteT ⟨_, rfl, v, .ty "bool", t, _, isB t, rfl, .ty _, ty, kit_bool T hv, _, rfl, ?_⟩
      have e := intV_of ty
      rw [hi, Bool.true_and] at e
      rw [e]
      exact k
/-- an error's own __init__ -/
def sp_einit (C : Addr) (f : Str) : Sp := fun vs H Q _ => ∃ (a : Addr) (v : V), vs = [.ref a, v] ∧ H a = some (exo a C none) ∧ ∀ dx, H dx = none → dx ≠ a → Q .non (upd (upd H dx (exd dx [(f, v)])) a (exo a C (some dx)))
theorem ok_BadNumber_init (T : Tx K mg) : FnOk P w K mg base (L2.CX P w) 1 T.a_BadNumber_init T.d_BadNumber_init P_BadNumber_init (sp_einit T.C_BadNumber "value") := by
  refine T.F_BadNumber_init.okX sc_BadNumber_init (fun vs H Q E h => ?_) (fun cdv A outer s H vs Q E hr h => ?_)
  · obtain ⟨a, v, rfl, _⟩ := h
    rfl
  · obtain ⟨a, v, rfl, ha, k⟩ := h
    refine ⟨_, pss_one (ps_ost (pv 0) (pv 1)), ?_⟩
    exact ⟨_, rfl, _, rfl, a, T.C_BadNumber, rfl, T.X_BadNumber, T.na_BadNumber_value, .inl ⟨ha, fun dx hd ne => k dx hd ne⟩⟩
theorem ok_BadPlace_init (T : Tx K mg) : FnOk P w K mg base (L2.CX P w) 1 T.a_BadPlace_init T.d_BadPlace_init P_BadPlace_init (sp_einit T.C_BadPlace "value") := by
  refine T.F_BadPlace_init.okX sc_BadPlace_init (fun vs H Q E h => ?_) (fun cdv A outer s H vs Q E hr h => ?_)
  · obtain ⟨a, v, rfl, _⟩ := h
    rfl
  · obtain ⟨a, v, rfl, ha, k⟩ := h
    refine ⟨_, pss_one (ps_ost (pv 0) (pv 1)), ?_⟩
    exact ⟨_, rfl, _, rfl, a, T.C_BadPlace, rfl, T.X_BadPlace, T.na_BadPlace_value, .inl ⟨ha, fun dx hd ne => k dx hd ne⟩⟩
/-- the wish for an error with one field: behind it the heap has its dict -/
def Err (H : Hp) (E : XK) (C : Addr) (f : Str) (v : V) : Prop := ∀ (d : Addr) (H' : Hp), Same H H' → H d = none → H' d = some (.xd [(f, v)]) → E (.ref C) (some d) H'
theorem Err.mono {H H1 : Hp} {E : XK} {C : Addr} {f : Str} {v : V} (s : Same H H1) (e : Err H E C f v) : Err H1 E C f v := fun d H' s' n h => e d H' (s.trans s') (s.free n) h
/-- what raise C(v) asks, by the init's promise -/
theorem mk_einit {C : Addr} {f : Str} {σ : L2.St} {H : Hp} {Q : XK} {ta : TA} {v : V} (h : ta σ H fun vs H1 => vs = [v] ∧ H1 = H) (k : Err H Q C f v) (hta : ∀ (Q Q' : List V → Hp → Prop), (∀ vs H, Q vs H → Q' vs H) → ta σ H Q → ta σ H Q') : tMkO C (sp_einit C f) [] ta σ H Q := by
  refine hta _ _ ?_ h
  rintro vs H1 ⟨rfl, rfl⟩
  refine ⟨by show 1 ≤ 1000; decide, fun a ha => ⟨a, v, rfl, upd_same, fun dx hd ne => ⟨rfl, dx, [(f, v)], upd_same, ?_, ?_, ?_⟩⟩⟩
  · rw [upd_ne ne, upd_same]
  · rw [upd_ne ne] at hd; exact hd
  · have hdx : H1 dx = none := by rw [upd_ne ne] at hd; exact hd
    refine k dx _ (fun b o e => ?_) hdx upd_same
    have nb : b ≠ dx := ne_of_none e hdx
    have na : b ≠ a := ne_of_none e ha
    rw [upd_ne nb, del_ne na, upd_ne na, upd_ne nb, upd_ne na]
    exact e
def sp_check_integer (T : Tx K mg) : Sp := fun vs H Q E => ∃ v, vs = [v] ∧ Vl T H v ∧ (intV v = true → Q .non H) ∧ (intV v = false → Err H E T.C_BadNumber "value" v)
theorem ok_check_integer (T : Tx K mg) : FnOk P w K mg base (L2.CX P w) 3 T.a_check_integer T.d_check_integer P_check_integer (sp_check_integer T) := by
  have G1 : FnOk P w K mg base (L2.CX P w) 1 _ _ _ _ := ok_is_integer T
  have G2 : FnOk P w K mg base (L2.CX P w) 1 _ _ _ _ := ok_BadNumber_init T
  refine T.F_check_integer.okX sc_check_integer (fun vs H Q E h => ?_) (fun cdv A outer s H vs Q E hr h => ?_)
  · obtain ⟨v, rfl, _⟩ := h
    rfl
  · obtain ⟨v, rfl, hv, kt, kf⟩ := h
    refine ⟨_, pss_one (ps_if (pt_not (pt_val (pe_call G1 (hr.mono (by decide)) rfl T.g_is_integer T.F_is_integer.kp T.b_is_integer .nil passL (pa_cons (pv 0) pa_nil))))
      (pss_one (ps_raise rfl (takes_of rfl rfl rfl rfl) (pmk_oex T.X_BadNumber T.ei_BadNumber T.et_BadNumber G2 hr T.b_BadNumber_init .nil passL rfl T.g_C_BadNumber (by exact pa_cons (pv 0) pa_nil)))) pss_nil), ?_⟩
    refine ⟨_, rfl, v, rfl, hv, _, rfl, ?_⟩
    cases hi : intV v with
    | true => exact iteF (kt hi)
    | false =>
      refine iteT ?_
      exact mk_einit (v := v) ⟨_, rfl, rfl, rfl⟩ (kf hi) (fun Q Q' h1 ⟨x, e, h2⟩ => ⟨x, e, h1 _ _ h2⟩)
end
end AW

set_option linter.all false
set_option maxRecDepth 100000
set_option maxHeartbeats 4000000
namespace AW
open PySem PySem.Spec PyProof.Rows L2
theorem find_first {α : Type} {p : α → Bool} : ∀ {xs : List α} {i : Nat} {v : α}, xs[i]? = some v → p v = true → (∀ (j : Nat) u, j < i → xs[j]? = some u → p u = false) → xs.find? p = some v
  | [], _, _, h, _, _ => by simp at h
  | a :: r, 0, v, h, hp, _ => by
    simp at h; subst h
    simp [List.find?, hp]
  | a :: r, i + 1, v, h, hp, hq => by
    have ha : p a = false := hq 0 a (Nat.succ_pos _) (by simp)
    simp only [List.find?, ha]
    exact find_first (by simpa using h) hp fun j u hj hu => hq (j + 1) u (Nat.succ_lt_succ hj) (by simpa using hu)
section
variable {P : Program} {w : World} {K : PySem.W.Frag} {mg : Str → Option Value} {base : Heap}
def sp_Place_init (T : Tx K mg) : Sp := fun vs H Q E => ∃ (p dx : Addr) (vx vy va : V), vs = [.ref p, vx, vy, va] ∧ H p = some (.ins T.C_Place dx []) ∧ Vl T H vx ∧ Vl T H vy ∧ Vl T H va ∧
  ((∃ x y a, vx = .int x ∧ vy = .int y ∧ va = .int a ∧ ∀ H' : Hp, (∀ b o, b ≠ p → H b = some o → H' b = some o) → H' p = some (.ins T.C_Place dx (flds x y a)) → Q .non H') ∨
   (∃ v, [vx, vy, va].find? (fun v => !intV v) = some v ∧ Err H E T.C_BadNumber "value" v))
theorem putF3 (x y a : Int) : putF "area" (.int a) (putF "y" (.int y) (putF "x" (.int x) [])) = flds x y a := by
  simp [putF, flds, kxy, kxa, kya]
theorem ok_Place_init (T : Tx K mg) : FnOk P w K mg base (L2.CX P w) 4 T.a_Place_init T.d_Place_init P_Place_init (sp_Place_init T) := by
  have G1 : FnOk P w K mg base (L2.CX P w) 3 _ _ _ _ := ok_check_integer T
  refine T.F_Place_init.okX sc_Place_init (fun vs H Q E h => ?_) (fun cdv A outer s H vs Q E hr h => ?_)
  · obtain ⟨p, dx, vx, vy, va, rfl, _⟩ := h
    rfl
  · obtain ⟨p, dx, vx, vy, va, rfl, hp, hx, hy, ha, k⟩ := h
    refine ⟨_, pss_cons (ps_for (passes_of rfl) rfl (pi_tup (pe_tup (pa_cons (pv 1) (pa_cons (pv 2) (pa_cons (pv 3) pa_nil))))) (pg_name (i := 4) sc_Place_init.nd rfl (.inl rfl))
        (pss_one (ps_expr (pe_call G1 hr rfl T.g_check_integer T.F_check_integer.kp T.b_check_integer .nil (passE (E := E)) (pa_cons (pv 4) pa_nil)))))
      (pss_cons (ps_fld (pv 0) (pv 1) rfl) (pss_cons (ps_fld (pv 0) (pv 2) rfl) (pss_one (ps_fld (pv 0) (pv 3) rfl)))), ?_⟩
    refine ⟨_, rfl, _, rfl, _, rfl, (by show 3 ≤ sizeLine; decide), fun t ht => ⟨t, rfl, ⟨_, SqT.of upd_same⟩, ?_⟩⟩
    have s0 : Same H (upd H t (.tup [vx, vy, va])) := Same.laid ht
    refine for_tup (K := K) (a := t) (xs := [vx, vy, va]) (fun i σ H1 => (∃ v, σ = [some (.ref p), some vx, some vy, some va, v]) ∧ H1 = upd H t (.tup [vx, vy, va]) ∧ ∀ (j : Nat) u, j < i → [vx, vy, va][j]? = some u → (!intV u) = false)
      ⟨⟨none, rfl⟩, rfl, fun j u hj => absurd hj (Nat.not_lt_zero _)⟩ (fun i σ H1 _ ⟨_, e, _⟩ => by rw [e]; exact SqT.of upd_same) ?_ ?_
    · rintro i v σ H1 hi ⟨⟨v0, rfl⟩, rfl, hj⟩
      have hv : Vl T H v := by
        match i, hi with
        | 0, hi => simp at hi; subst hi; exact hx
        | 1, hi => simp at hi; subst hi; exact hy
        | 2, hi => simp at hi; subst hi; exact ha
      refine ⟨_, rfl, v, rfl, hv.mono s0, fun hi' => ⟨⟨_, rfl⟩, rfl, fun j u hlt hu => ?_⟩, fun hi' => ?_⟩
      · rcases Nat.lt_succ_iff_lt_or_eq.mp hlt with h | h
        · exact hj j u h hu
        · subst h; rw [hi] at hu; cases hu; rw [hi']; rfl
      · have hf := find_first (p := fun v => !intV v) hi (by rw [hi']; rfl) hj
        rcases k with ⟨x, y, a, rfl, rfl, rfl, _⟩ | ⟨v', h1, h2⟩
        · simp [List.find?, intV] at hf
        · rw [hf] at h1; cases h1
          exact h2.mono s0
    · rintro σ H1 ⟨⟨v0, rfl⟩, rfl, hj⟩
      rcases k with ⟨x, y, a, rfl, rfl, rfl, k⟩ | ⟨v', h1, h2⟩
      · have np : p ≠ t := ne_of_none hp ht
        refine ⟨_, rfl, _, rfl, p, T.C_Place, dx, [], rfl, (by rw [upd_ne np]; exact hp), T.cl_Place, T.na_Place_x, (by decide), ?_⟩
        refine ⟨_, rfl, _, rfl, p, T.C_Place, dx, _, rfl, upd_same, T.cl_Place, T.na_Place_y, (by show 1 < 1000; decide), ?_⟩
        refine ⟨_, rfl, _, rfl, p, T.C_Place, dx, _, rfl, upd_same, T.cl_Place, T.na_Place_area, (by have h1 := length_putF "y" (V.int y) (putF "x" (V.int x) []); have h2 := length_putF "x" (V.int x) []; have h3 : ([] : List (Str × V)).length = 0 := rfl; omega), ?_⟩
        refine k _ (fun b o nb e => ?_) ?_
        · rw [upd_ne nb, upd_ne nb, upd_ne nb, upd_ne (ne_of_none e ht)]
          exact e
        · rw [upd_same, putF3]
      · have hm := List.find?_some h1
        have hmem := List.mem_of_find?_eq_some h1
        obtain ⟨j, hj1, hj2⟩ := List.getElem_of_mem hmem
        have := hj j v' hj1 (by rw [List.getElem?_eq_getElem hj1, hj2])
        rw [this] at hm
        cases hm
/-- what a call Place(x, y, a) of ints asks: a new Place p -/
theorem mk_place (T : Tx K mg) {H : Hp} {Q : VK} {E : XK} {x y a : Int} (k : ∀ p H', Same H H' → H p = none → PlAt T H' p x y a → Q (.ref p) H') :
    ∀ p dx, H p = none → H dx = none → dx ≠ p → sp_Place_init T (.ref p :: ([.int x, .int y, .int a] ++ [])) (upd (upd H dx (.own p)) p (.ins T.C_Place dx [])) (fun v H2 => v = .non ∧ Q (.ref p) H2) E := fun p dx hp hd ne =>
  ⟨p, dx, _, _, _, rfl, upd_same, .int x, .int y, .int a, .inl ⟨x, y, a, rfl, rfl, rfl, fun H' s e => ⟨rfl, k p H' (fun b o h => s b o (ne_of_none h hp) (by rw [upd_ne (ne_of_none h hp), upd_ne (ne_of_none h hd)]; exact h)) hp ⟨dx, e⟩⟩⟩⟩
end
end AW

set_option linter.all false
set_option maxRecDepth 100000
set_option maxHeartbeats 4000000
namespace AW
open PySem PySem.Spec PyProof.Rows L2
theorem ifT {c : Bool} {A B : Prop} (hc : c = true) (h : A) : if c = true then A else B := by
  rw [if_pos hc]
  exact h
theorem ifN {c : Bool} {A B : Prop} (hc : c = false) (h : B) : if c = true then A else B := by
  rw [hc, if_neg Bool.false_ne_true]
  exact h
/-! ### sizes of ints -/
def Bd (k : Nat) (i : Int) : Prop := i.natAbs < 2 ^ k
theorem Bd.mono {k m : Nat} {i : Int} (h : Bd k i) (l : k ≤ m) : Bd m i := Nat.lt_of_lt_of_le h (Nat.pow_le_pow_right (by decide) l)
theorem Bd.neg {k : Nat} {i : Int} (h : Bd k i) : Bd k (-i) := by unfold Bd; rw [Int.natAbs_neg]; exact h
theorem Bd.add {k : Nat} {i j : Int} (h : Bd k i) (g : Bd k j) : Bd (k + 1) (i + j) := by
  unfold Bd at *
  rw [Nat.pow_succ]
  omega
theorem Bd.sub {k : Nat} {i j : Int} (h : Bd k i) (g : Bd k j) : Bd (k + 1) (i - j) := by
  unfold Bd at *
  rw [Nat.pow_succ]
  omega
theorem Bd.mul {k m : Nat} {i j : Int} (h : Bd k i) (g : Bd m j) : Bd (k + m) (i * j) := wide_lt h g
abbrev BIG : Nat := 400000
theorem big_mul {i j : Int} (h : Bd BIG i) (g : Bd BIG j) : CMulW i j := wide_mul h g (by decide) (by decide) (by decide)
section
variable {P : Program} {w : World} {K : PySem.W.Frag} {mg : Str → Option Value} {base : Heap}
theorem notFirst_of (T : Tx K mg) {t : Value} (h : TyT T t) : PySem.W.notFirst K T.C_Place t = true := by
  unfold PySem.W.notFirst
  rcases h with rfl | rfl | rfl | rfl | rfl | rfl | rfl | rfl
  · simp
  · rw [T.sb_NoneType_Place]; simp
  · rw [T.sb_bool_Place]; simp
  · rw [T.sb_int_Place]; simp
  · rw [T.sb_str_Place]; simp
  · rw [T.sb_list_Place]; simp
  · rw [T.sb_tuple_Place]; simp
  · rw [T.sb_dict_Place]; simp
theorem rt_of (T : Tx K mg) {t : Value} (h : TyT T t) : RtOk K T.C_Place .Mult t := by
  rcases h with rfl | rfl | rfl | rfl | rfl | rfl | rfl | rfl
  · exact .same
  · exact .ty rfl rfl T.sb_NoneType_Place
  · exact .ty rfl rfl T.sb_bool_Place
  · exact .ty rfl rfl T.sb_int_Place
  · exact .ty rfl rfl T.sb_str_Place
  · exact .ty rfl rfl T.sb_list_Place
  · exact .ty rfl rfl T.sb_tuple_Place
  · exact .ty rfl rfl T.sb_dict_Place
/-- v is no Place -/
def NoP (T : Tx K mg) (H : Hp) (v : V) : Prop := ∃ t, TyX K H v t ∧ TyT T t ∧ isP T t = false
theorem NoP.vl {T : Tx K mg} {H : Hp} {v : V} (h : NoP T H v) : Vl T H v := let ⟨t, a, b, _⟩ := h; ⟨t, a, b⟩
theorem NoP.mono {T : Tx K mg} {H H' : Hp} {v : V} (s : Same H H') (h : NoP T H v) : NoP T H' v := let ⟨t, a, b, c⟩ := h; ⟨t, TyX.mono s a, b, c⟩
/-- isinstance(v, Place): no -/
theorem kit_no (T : Tx K mg) {t : Value} (ht : TyT T t) (e : isP T t = false) : PySem.W.kitOne K t (.ref T.C_Place) = some false := by rw [kit_place T ht, e]
def sp_Place_eq (T : Tx K mg) : Sp := fun vs H Q _ => ∃ (p : Addr) (v : V) (x y a : Int), vs = [.ref p, v] ∧ PlAt T H p x y a ∧
  ((∃ q x' y' a', v = .ref q ∧ PlAt T H q x' y' a' ∧ Q (.bl (decide (x = x' ∧ y = y' ∧ a = a'))) H) ∨ (NoP T H v ∧ Q (.bl false) H))
theorem ok_Place_eq (T : Tx K mg) : FnOk P w K mg base (L2.CX P w) 1 T.a_Place_eq T.d_Place_eq P_Place_eq (sp_Place_eq T) := by
  refine T.F_Place_eq.okX sc_Place_eq (fun vs H Q E h => ?_) (fun cdv A outer s H vs Q E hr h => ?_)
  · obtain ⟨p, v, x, y, a, rfl, _⟩ := h
    rfl
  · obtain ⟨p, v, x, y, a, rfl, hp, k⟩ := h
    refine ⟨_, pss_one (ps_ret (pe_and (pe_callB call_isi rfl T.n_isinstance (by decide +kernel) (pa_cons (pv 1) (pa_cons (pe_glob (v := .ref T.C_Place) rfl T.g_C_Place rfl) pa_nil)))
      (pe_and (pe_cmp (pc_eqI (pe_fld (pv 0) rfl) (pe_fld (pv 1) rfl)) rfl) (pe_and (pe_cmp (pc_eqI (pe_fld (pv 0) rfl) (pe_fld (pv 1) rfl)) rfl) (pe_one (pe_cmp (pc_eqI (pe_fld (pv 0) rfl) (pe_fld (pv 1) rfl)) rfl)))))), ?_⟩
    obtain ⟨dx, ep⟩ := id hp
    rcases k with ⟨q, x', y', a', rfl, hq, k⟩ | ⟨⟨t, ty, ht, e⟩, k⟩
    · obtain ⟨dy, eq⟩ := id hq
      refine ⟨_, rfl, _, _, _, _, true, rfl, .own _, hq.ty, kit_self, _, rfl, iteT ?_⟩
      refine ⟨_, rfl, p, _, dx, _, _, rfl, ep, T.cl_Place, T.na_Place_x, flds_x x y a, _, rfl, q, _, dy, _, _, rfl, eq, T.cl_Place, T.na_Place_x, flds_x x' y' a', _, _, rfl, rfl, _, rfl, ?_⟩
      by_cases h1 : x = x'
      · refine ifT (decide_eq_true h1) ⟨_, rfl, p, _, dx, _, _, rfl, ep, T.cl_Place, T.na_Place_y, flds_y x y a, _, rfl, q, _, dy, _, _, rfl, eq, T.cl_Place, T.na_Place_y, flds_y x' y' a', _, _, rfl, rfl, _, rfl, ?_⟩
        by_cases h2 : y = y'
        · refine ifT (decide_eq_true h2) ⟨_, rfl, p, _, dx, _, _, rfl, ep, T.cl_Place, T.na_Place_area, flds_a x y a, _, rfl, q, _, dy, _, _, rfl, eq, T.cl_Place, T.na_Place_area, flds_a x' y' a', _, _, rfl, rfl, ?_⟩
          have e : decide (a = a') = decide (x = x' ∧ y = y' ∧ a = a') := by simp [h1, h2]
          rw [← e] at k
          exact k
        · refine ifN (decide_eq_false h2) ?_
          have e : decide (x = x' ∧ y = y' ∧ a = a') = false := by simp [h2]
          rw [e] at k
          exact k
      · refine ifN (decide_eq_false h1) ?_
        have e : decide (x = x' ∧ y = y' ∧ a = a') = false := by simp [h1]
        rw [e] at k
        exact k
    · exact ⟨_, rfl, _, _, _, _, false, rfl, .own _, ty, kit_no T ht e, _, rfl, iteF k⟩
def sp_check_place (T : Tx K mg) : Sp := fun vs H Q E => ∃ v, vs = [v] ∧ ((∃ q x y a, v = .ref q ∧ PlAt T H q x y a ∧ Q .non H) ∨ (NoP T H v ∧ Err H E T.C_BadPlace "value" v))
theorem ok_check_place (T : Tx K mg) : FnOk P w K mg base (L2.CX P w) 3 T.a_check_place T.d_check_place P_check_place (sp_check_place T) := by
  have G2 : FnOk P w K mg base (L2.CX P w) 1 _ _ _ _ := ok_BadPlace_init T
  refine T.F_check_place.okX sc_check_place (fun vs H Q E h => ?_) (fun cdv A outer s H vs Q E hr h => ?_)
  · obtain ⟨v, rfl, _⟩ := h
    rfl
  · obtain ⟨v, rfl, k⟩ := h
    refine ⟨_, pss_one (ps_if (pt_not (pt_val (pe_callB call_isi rfl T.n_isinstance (by decide +kernel) (pa_cons (pv 0) (pa_cons (pe_glob (v := .ref T.C_Place) rfl T.g_C_Place rfl) pa_nil)))))
      (pss_one (ps_raise rfl (takes_of rfl rfl rfl rfl) (pmk_oex T.X_BadPlace T.ei_BadPlace T.et_BadPlace G2 (hr.mono (by decide)) T.b_BadPlace_init .nil passL rfl T.g_C_BadPlace (by exact pa_cons (pv 0) pa_nil)))) pss_nil), ?_⟩
    rcases k with ⟨q, x', y', a', rfl, hq, k⟩ | ⟨⟨t, ty, ht, e⟩, k⟩
    · exact ⟨_, rfl, _, _, _, _, true, rfl, .own _, hq.ty, kit_self, _, rfl, iteF k⟩
    · refine ⟨_, rfl, _, _, _, _, false, rfl, .own _, ty, kit_no T ht e, _, rfl, iteT ?_⟩
      exact mk_einit (v := v) ⟨_, rfl, rfl, rfl⟩ k (fun Q Q' h1 ⟨x, e, h2⟩ => ⟨x, e, h1 _ _ h2⟩)
end
end AW

set_option linter.all false
set_option maxRecDepth 100000
set_option maxHeartbeats 4000000
namespace AW
open PySem PySem.Spec PyProof.Rows L2
section
variable {P : Program} {w : World} {K : PySem.W.Frag} {mg : Str → Option Value} {base : Heap}
/-- a new Place comes back -/
def NewP (T : Tx K mg) (H : Hp) (Q : VK) (x y a : Int) : Prop := ∀ (r : Addr) (H' : Hp), Same H H' → H r = none → PlAt T H' r x y a → Q (.ref r) H'
def sp_Place_mul (T : Tx K mg) : Sp := fun vs H Q E => ∃ (p : Addr) (v : V) (x y a : Int), vs = [.ref p, v] ∧ PlAt T H p x y a ∧
  ((∃ q x' y' a', v = .ref q ∧ PlAt T H q x' y' a' ∧ Bd BIG x ∧ Bd BIG y' ∧ NewP T H Q (x + x') (y + y') (a + a' + x * y')) ∨ (NoP T H v ∧ Err H E T.C_BadPlace "value" v))
theorem ok_Place_mul (T : Tx K mg) : FnOk P w K mg base (L2.CX P w) 6 T.a_Place_mul T.d_Place_mul P_Place_mul (sp_Place_mul T) := by
  have G1 : FnOk P w K mg base (L2.CX P w) 3 _ _ _ _ := ok_check_place T
  have G2 : FnOk P w K mg base (L2.CX P w) 4 _ _ _ _ := ok_Place_init T
  refine T.F_Place_mul.okX sc_Place_mul (fun vs H Q E h => ?_) (fun cdv A outer s H vs Q E hr h => ?_)
  · obtain ⟨p, v, x, y, a, rfl, _⟩ := h
    rfl
  · obtain ⟨p, v, x, y, a, rfl, hp, k⟩ := h
    refine ⟨_, pss_cons (ps_expr (pe_call G1 (hr.mono (by decide)) rfl T.g_check_place T.F_check_place.kp T.b_check_place .nil (passE (E := E)) (pa_cons (pv 1) pa_nil)))
      (pss_one (ps_ret (pe_make T.M_Place G2 hr rfl T.g_C_Place T.b_Place_init .nil passL
        (pa_cons (pe_op op_add (pe_fld (pv 0) rfl) (pe_fld (pv 1) rfl)) (pa_cons (pe_op op_add (pe_fld (pv 0) rfl) (pe_fld (pv 1) rfl))
          (pa_cons (pe_op op_add (pe_op op_add (pe_fld (pv 0) rfl) (pe_fld (pv 1) rfl)) (pe_op op_mulW (pe_fld (pv 0) rfl) (pe_fld (pv 1) rfl))) pa_nil)))))), ?_⟩
    obtain ⟨dx, ep⟩ := id hp
    rcases k with ⟨q, x', y', a', rfl, hq, b1, b2, k⟩ | ⟨hn, k⟩
    · obtain ⟨dy, eq⟩ := id hq
      refine ⟨_, rfl, _, rfl, .inl ⟨q, x', y', a', rfl, hq, ?_⟩⟩
      refine ⟨_, rfl, p, _, dx, _, _, rfl, ep, T.cl_Place, T.na_Place_x, flds_x x y a, _, rfl, q, _, dy, _, _, rfl, eq, T.cl_Place, T.na_Place_x, flds_x x' y' a', _, _, rfl, rfl, ?_⟩
      refine ⟨_, rfl, p, _, dx, _, _, rfl, ep, T.cl_Place, T.na_Place_y, flds_y x y a, _, rfl, q, _, dy, _, _, rfl, eq, T.cl_Place, T.na_Place_y, flds_y x' y' a', _, _, rfl, rfl, ?_⟩
      refine ⟨_, rfl, p, _, dx, _, _, rfl, ep, T.cl_Place, T.na_Place_area, flds_a x y a, _, rfl, q, _, dy, _, _, rfl, eq, T.cl_Place, T.na_Place_area, flds_a x' y' a', _, _, rfl, rfl, ?_⟩
      refine ⟨_, rfl, p, _, dx, _, _, rfl, ep, T.cl_Place, T.na_Place_x, flds_x x y a, _, rfl, q, _, dy, _, _, rfl, eq, T.cl_Place, T.na_Place_y, flds_y x' y' a', _, _, rfl, rfl, big_mul b1 b2, _, _, rfl, rfl, ?_⟩
      exact mk_place T fun r H' s n h => k r H' s n h
    · exact ⟨_, rfl, _, rfl, .inr ⟨hn, k⟩⟩
def sp_Place_invert (T : Tx K mg) : Sp := fun vs H Q E => ∃ (p : Addr) (x y a : Int), vs = [.ref p] ∧ PlAt T H p x y a ∧ Bd BIG x ∧ Bd BIG y ∧ NewP T H Q (-x) (-y) (x * y - a)
theorem ok_Place_invert (T : Tx K mg) : FnOk P w K mg base (L2.CX P w) 6 T.a_Place_invert T.d_Place_invert P_Place_invert (sp_Place_invert T) := by
  have G2 : FnOk P w K mg base (L2.CX P w) 4 _ _ _ _ := ok_Place_init T
  refine T.F_Place_invert.okX sc_Place_invert (fun vs H Q E h => ?_) (fun cdv A outer s H vs Q E hr h => ?_)
  · obtain ⟨p, x, y, a, rfl, _⟩ := h
    rfl
  · obtain ⟨p, x, y, a, rfl, hp, b1, b2, k⟩ := h
    refine ⟨_, pss_one (ps_ret (pe_make T.M_Place G2 hr rfl T.g_C_Place T.b_Place_init .nil passL
        (pa_cons (pe_un un_neg (pe_fld (pv 0) rfl)) (pa_cons (pe_un un_neg (pe_fld (pv 0) rfl))
          (pa_cons (pe_op op_sub (pe_op op_mulW (pe_fld (pv 0) rfl) (pe_fld (pv 0) rfl)) (pe_fld (pv 0) rfl)) pa_nil))))), ?_⟩
    obtain ⟨dx, ep⟩ := id hp
    refine ⟨_, rfl, p, _, dx, _, _, rfl, ep, T.cl_Place, T.na_Place_x, flds_x x y a, _, rfl, ?_⟩
    refine ⟨_, rfl, p, _, dx, _, _, rfl, ep, T.cl_Place, T.na_Place_y, flds_y x y a, _, rfl, ?_⟩
    refine ⟨_, rfl, p, _, dx, _, _, rfl, ep, T.cl_Place, T.na_Place_x, flds_x x y a, _, rfl, p, _, dx, _, _, rfl, ep, T.cl_Place, T.na_Place_y, flds_y x y a, _, _, rfl, rfl, big_mul b1 b2, ?_⟩
    refine ⟨_, rfl, p, _, dx, _, _, rfl, ep, T.cl_Place, T.na_Place_area, flds_a x y a, _, _, rfl, rfl, ?_⟩
    exact mk_place T fun r H' s n h => k r H' s n h
def sp_Place_is_home (T : Tx K mg) : Sp := fun vs H Q E => ∃ (p : Addr) (x y a : Int), vs = [.ref p] ∧ PlAt T H p x y a ∧ Q (.bl (decide (x = 0 ∧ y = 0 ∧ a = 0))) H
theorem ok_Place_is_home (T : Tx K mg) : FnOk P w K mg base (L2.CX P w) 1 T.a_Place_is_home T.d_Place_is_home P_Place_is_home (sp_Place_is_home T) := by
  refine T.F_Place_is_home.okX sc_Place_is_home (fun vs H Q E h => ?_) (fun cdv A outer s H vs Q E hr h => ?_)
  · obtain ⟨p, x, y, a, rfl, _⟩ := h
    rfl
  · obtain ⟨p, x, y, a, rfl, hp, k⟩ := h
    refine ⟨_, pss_one (ps_ret (pe_and (pe_cmp (pc_eqI (pe_fld (pv 0) rfl) pe_int) rfl) (pe_and (pe_cmp (pc_eqI (pe_fld (pv 0) rfl) pe_int) rfl) (pe_one (pe_cmp (pc_eqI (pe_fld (pv 0) rfl) pe_int) rfl))))), ?_⟩
    obtain ⟨dx, ep⟩ := id hp
    refine ⟨_, rfl, p, _, dx, _, _, rfl, ep, T.cl_Place, T.na_Place_x, flds_x x y a, _, _, rfl, rfl, _, rfl, ?_⟩
    by_cases h1 : x = 0
    · refine ifT (decide_eq_true h1) ⟨_, rfl, p, _, dx, _, _, rfl, ep, T.cl_Place, T.na_Place_y, flds_y x y a, _, _, rfl, rfl, _, rfl, ?_⟩
      by_cases h2 : y = 0
      · refine ifT (decide_eq_true h2) ⟨_, rfl, p, _, dx, _, _, rfl, ep, T.cl_Place, T.na_Place_area, flds_a x y a, _, _, rfl, rfl, ?_⟩
        have e : decide (a = 0) = decide (x = 0 ∧ y = 0 ∧ a = 0) := by simp [h1, h2]
        rw [← e] at k
        exact k
      · refine ifN (decide_eq_false h2) ?_
        have e : decide (x = 0 ∧ y = 0 ∧ a = 0) = false := by simp [h2]
        rw [e] at k
        exact k
    · refine ifN (decide_eq_false h1) ?_
      have e : decide (x = 0 ∧ y = 0 ∧ a = 0) = false := by simp [h1]
      rw [e] at k
      exact k
/-- what a value must be: an int n, or an error -/
def sp_Place_lifted (T : Tx K mg) : Sp := fun vs H Q E => ∃ (p : Addr) (v : V) (x y a : Int), vs = [.ref p, v] ∧ PlAt T H p x y a ∧ Vl T H v ∧
  ((∃ n, v = .int n ∧ NewP T H Q x y (a + n)) ∨ (intV v = false ∧ Err H E T.C_BadNumber "value" v))
theorem ok_Place_lifted (T : Tx K mg) : FnOk P w K mg base (L2.CX P w) 6 T.a_Place_lifted T.d_Place_lifted P_Place_lifted (sp_Place_lifted T) := by
  have G1 : FnOk P w K mg base (L2.CX P w) 3 _ _ _ _ := ok_check_integer T
  have G2 : FnOk P w K mg base (L2.CX P w) 4 _ _ _ _ := ok_Place_init T
  refine T.F_Place_lifted.okX sc_Place_lifted (fun vs H Q E h => ?_) (fun cdv A outer s H vs Q E hr h => ?_)
  · obtain ⟨p, v, x, y, a, rfl, _⟩ := h
    rfl
  · obtain ⟨p, v, x, y, a, rfl, hp, hv, k⟩ := h
    refine ⟨_, pss_cons (ps_expr (pe_call G1 (hr.mono (by decide)) rfl T.g_check_integer T.F_check_integer.kp T.b_check_integer .nil (passE (E := E)) (pa_cons (pv 1) pa_nil)))
      (pss_one (ps_ret (pe_make T.M_Place G2 hr rfl T.g_C_Place T.b_Place_init .nil passL
        (pa_cons (pe_fld (pv 0) rfl) (pa_cons (pe_fld (pv 0) rfl) (pa_cons (pe_op op_add (pe_fld (pv 0) rfl) (pv 1)) pa_nil)))))), ?_⟩
    obtain ⟨dx, ep⟩ := id hp
    refine ⟨_, rfl, v, rfl, hv, fun e => ?_, fun e => ?_⟩
    · rcases k with ⟨n, rfl, k⟩ | ⟨e', _⟩
      · refine ⟨_, rfl, p, _, dx, _, _, rfl, ep, T.cl_Place, T.na_Place_x, flds_x x y a, ?_⟩
        refine ⟨_, rfl, p, _, dx, _, _, rfl, ep, T.cl_Place, T.na_Place_y, flds_y x y a, ?_⟩
        refine ⟨_, rfl, p, _, dx, _, _, rfl, ep, T.cl_Place, T.na_Place_area, flds_a x y a, _, rfl, _, _, rfl, rfl, ?_⟩
        exact mk_place T fun r H' s n h => k r H' s n h
      · rw [e] at e'; cases e'
    · rcases k with ⟨n, rfl, k⟩ | ⟨e', k⟩
      · cases e
      · exact k
def sp_Place_power (T : Tx K mg) : Sp := fun vs H Q E => ∃ (p : Addr) (v : V) (x y a : Int), vs = [.ref p, v] ∧ PlAt T H p x y a ∧ Vl T H v ∧
  ((∃ n, v = .int n ∧ Bd 100000 x ∧ Bd 100000 y ∧ Bd BIG a ∧ Bd 100000 n ∧ NewP T H Q (n * x) (n * y) (n * a + x * y * (n * (n - 1)).fdiv 2)) ∨ (intV v = false ∧ Err H E T.C_BadNumber "value" v))
theorem Bd.one {k : Nat} (h : 1 ≤ k) : Bd k 1 := by
  have e : (1 : Int).natAbs < 2 ^ 1 := by decide
  exact Nat.lt_of_lt_of_le e (Nat.pow_le_pow_right (by decide) h)
theorem half_bd {n : Int} (h : Bd 100000 n) : Bd 200001 ((n * (n - 1)).fdiv 2) := by
  have h1 : Bd 100001 (n - 1) := h.sub (Bd.one (by decide))
  have h2 : Bd 200001 (n * (n - 1)) := (h.mul h1).mono (by decide)
  unfold Bd at *
  generalize n * (n - 1) = m at h2 ⊢
  refine Nat.lt_of_le_of_lt ?_ h2
  rw [Int.fdiv_eq_ediv_of_nonneg _ (by decide)]
  omega
theorem ok_Place_power (T : Tx K mg) : FnOk P w K mg base (L2.CX P w) 6 T.a_Place_power T.d_Place_power P_Place_power (sp_Place_power T) := by
  have G1 : FnOk P w K mg base (L2.CX P w) 3 _ _ _ _ := ok_check_integer T
  have G2 : FnOk P w K mg base (L2.CX P w) 4 _ _ _ _ := ok_Place_init T
  refine T.F_Place_power.okX sc_Place_power (fun vs H Q E h => ?_) (fun cdv A outer s H vs Q E hr h => ?_)
  · obtain ⟨p, v, x, y, a, rfl, _⟩ := h
    rfl
  · obtain ⟨p, v, x, y, a, rfl, hp, hv, k⟩ := h
    refine ⟨_, pss_cons (ps_expr (pe_call G1 (hr.mono (by decide)) rfl T.g_check_integer T.F_check_integer.kp T.b_check_integer .nil (passE (E := E)) (pa_cons (pv 1) pa_nil)))
      (pss_cons (ps_set (i := 2) sc_Place_power.nd rfl (.inl rfl) (pe_op op_add (pe_op op_mulW (pv 1) (pe_fld (pv 0) rfl)) (pe_op op_mulW (pe_op op_mulW (pe_fld (pv 0) rfl) (pe_fld (pv 0) rfl)) (pe_op op_fdivN (pe_op op_mulW (pv 1) (pe_op op_sub (pv 1) pe_int)) pe_int))))
      (pss_one (ps_ret (pe_make T.M_Place G2 hr rfl T.g_C_Place T.b_Place_init .nil passL
        (pa_cons (pe_op op_mulW (pv 1) (pe_fld (pv 0) rfl)) (pa_cons (pe_op op_mulW (pv 1) (pe_fld (pv 0) rfl)) (pa_cons (pv 2) pa_nil))))))), ?_⟩
    obtain ⟨dx, ep⟩ := id hp
    refine ⟨_, rfl, v, rfl, hv, fun e => ?_, fun e => ?_⟩
    · rcases k with ⟨n, rfl, b1, b2, b3, b4, k⟩ | ⟨e', _⟩
      · have B4 : Bd BIG n := b4.mono (by decide)
        have h1 : Bd 100001 (n - 1) := b4.sub (Bd.one (by decide))
        refine ⟨_, rfl, _, rfl, p, _, dx, _, _, rfl, ep, T.cl_Place, T.na_Place_area, flds_a x y a, _, _, rfl, rfl, big_mul B4 b3, ?_⟩
        refine ⟨_, rfl, p, _, dx, _, _, rfl, ep, T.cl_Place, T.na_Place_x, flds_x x y a, _, rfl, p, _, dx, _, _, rfl, ep, T.cl_Place, T.na_Place_y, flds_y x y a, _, _, rfl, rfl, big_mul (b1.mono (by decide)) (b2.mono (by decide)), ?_⟩
        refine ⟨_, rfl, _, rfl, _, _, rfl, rfl, _, _, rfl, rfl, big_mul B4 (h1.mono (by decide)), _, _, rfl, rfl, ⟨by decide, by decide⟩, ?_⟩
        refine ⟨_, _, rfl, rfl, big_mul ((b1.mul b2).mono (by decide)) ((half_bd b4).mono (by decide)), _, _, rfl, rfl, ?_⟩
        refine ⟨_, rfl, _, rfl, p, _, dx, _, _, rfl, ep, T.cl_Place, T.na_Place_x, flds_x x y a, _, _, rfl, rfl, big_mul B4 (b1.mono (by decide)), ?_⟩
        refine ⟨_, rfl, _, rfl, p, _, dx, _, _, rfl, ep, T.cl_Place, T.na_Place_y, flds_y x y a, _, _, rfl, rfl, big_mul B4 (b2.mono (by decide)), ?_⟩
        refine ⟨_, rfl, ?_⟩
        exact mk_place T fun r H' s n h => k r H' s n h
      · rw [e] at e'; cases e'
    · rcases k with ⟨n, rfl, b1, b2, b3, b4, k⟩ | ⟨e', k⟩
      · cases e
      · exact k
end
end AW

set_option linter.all false
set_option maxRecDepth 100000
set_option maxHeartbeats 4000000
namespace AW
open PySem PySem.Spec PyProof.Rows L2
/-! ### places as triples -/
structure G where
  x : Int
  y : Int
  a : Int
  deriving DecidableEq
def G.mul (g h : G) : G := ⟨g.x + h.x, g.y + h.y, g.a + h.a + g.x * h.y⟩
def G.inv (g : G) : G := ⟨-g.x, -g.y, g.x * g.y - g.a⟩
def G.one : G := ⟨0, 0, 0⟩
def G.pw (g : G) (n : Int) : G := ⟨n * g.x, n * g.y, n * g.a + g.x * g.y * (n * (n - 1)).fdiv 2⟩
def G.lift (g : G) (n : Int) : G := ⟨g.x, g.y, g.a + n⟩
def G.prod (l : List G) : G := l.foldl G.mul G.one
theorem G.prod_snoc (l : List G) (g : G) : G.prod (l ++ [g]) = (G.prod l).mul g := by simp [G.prod, List.foldl_append]
theorem G.ext {g h : G} (h1 : g.x = h.x) (h2 : g.y = h.y) (h3 : g.a = h.a) : g = h := by cases g; cases h; simp_all
theorem take_snoc {α : Type} : ∀ {l : List α} {i : Nat} {x : α}, l[i]? = some x → l.take (i + 1) = l.take i ++ [x]
  | [], i, x, h => by simp at h
  | a :: l, 0, x, h => by
    have e : a = x := Option.some.inj h
    subst e
    rfl
  | a :: l, i + 1, x, h => by
    have ih := take_snoc (l := l) (i := i) (x := x) h
    show a :: l.take (i + 1) = a :: l.take i ++ [x]
    rw [ih]
    rfl
theorem prod_x : ∀ (l : List G) (k : Nat), (∀ g ∈ l, Bd k g.x) → ∀ i, Bd (k + i) (G.prod (l.take i)).x := fun l k h i => by
  induction i with
  | zero =>
    show (0 : Int).natAbs < 2 ^ (k + 0)
    exact Nat.pow_pos (by decide)
  | succ i ih =>
    cases e : l[i]? with
    | none =>
      rw [List.take_of_length_le (by have := List.getElem?_eq_none_iff.mp e; omega)]
      rw [List.take_of_length_le (List.getElem?_eq_none_iff.mp e)] at ih
      exact ih.mono (by omega)
    | some g =>
      rw [take_snoc e, G.prod_snoc]
      have hg := (h g (List.mem_of_getElem? e)).mono (show k ≤ k + i by omega)
      exact ih.add hg
section
variable {P : Program} {w : World} {K : PySem.W.Frag} {mg : Str → Option Value} {base : Heap}
abbrev PG' (T : Tx K mg) (H : Hp) (p : Addr) (g : G) : Prop := PlAt T H p g.x g.y g.a
/-- the values are places -/
def Pls (T : Tx K mg) (H : Hp) (xs : List V) (gs : List G) : Prop := xs.length = gs.length ∧ ∀ (i : Nat) (v : V) (g : G), xs[i]? = some v → gs[i]? = some g → ∃ q, v = .ref q ∧ PG' T H q g
theorem Pls.mono {T : Tx K mg} {H H' : Hp} {xs : List V} {gs : List G} (s : Same H H') (h : Pls T H xs gs) : Pls T H' xs gs := ⟨h.1, fun i v g h1 h2 => let ⟨q, e, p⟩ := h.2 i v g h1 h2; ⟨q, e, p.mono s⟩⟩
theorem Pls.nil {T : Tx K mg} {H : Hp} : Pls T H [] [] := ⟨rfl, fun i v g h => by simp at h⟩
theorem Pls.snoc {T : Tx K mg} {H : Hp} {xs : List V} {gs : List G} {q : Addr} {g : G} (h : Pls T H xs gs) (p : PG' T H q g) : Pls T H (xs ++ [.ref q]) (gs ++ [g]) := by
  refine ⟨by simp [h.1], fun i v g' h1 h2 => ?_⟩
  by_cases hi : i < xs.length
  · rw [List.getElem?_append_left hi] at h1
    rw [List.getElem?_append_left (by rw [← h.1]; exact hi)] at h2
    exact h.2 i v g' h1 h2
  · rw [List.getElem?_append_right (by omega)] at h1
    rw [List.getElem?_append_right (by rw [← h.1]; omega)] at h2
    have e : i - xs.length = 0 := by
      cases e : i - xs.length with
      | zero => rfl
      | succ n => rw [e] at h1; simp at h1
    rw [e] at h1
    rw [← h.1, e] at h2
    simp at h1 h2
    subst h1; subst h2
    exact ⟨q, rfl, p⟩
def sp_Place_twist (T : Tx K mg) : Sp := fun vs H Q E => ∃ (p : Addr) (v : V) (x y a : Int), vs = [.ref p, v] ∧ PlAt T H p x y a ∧
  ((∃ q x' y' a', v = .ref q ∧ PlAt T H q x' y' a' ∧ Bd BIG x ∧ Bd BIG y ∧ Bd BIG x' ∧ Bd BIG y' ∧ Q (.int (x * y' - x' * y)) H) ∨ (NoP T H v ∧ Err H E T.C_BadPlace "value" v))
theorem ok_Place_twist (T : Tx K mg) : FnOk P w K mg base (L2.CX P w) 6 T.a_Place_twist T.d_Place_twist P_Place_twist (sp_Place_twist T) := by
  have G1 : FnOk P w K mg base (L2.CX P w) 3 _ _ _ _ := ok_check_place T
  refine T.F_Place_twist.okX sc_Place_twist (fun vs H Q E h => ?_) (fun cdv A outer s H vs Q E hr h => ?_)
  · obtain ⟨p, v, x, y, a, rfl, _⟩ := h
    rfl
  · obtain ⟨p, v, x, y, a, rfl, hp, k⟩ := h
    refine ⟨_, pss_cons (ps_expr (pe_call G1 (hr.mono (by decide)) rfl T.g_check_place T.F_check_place.kp T.b_check_place .nil (passE (E := E)) (pa_cons (pv 1) pa_nil)))
      (pss_one (ps_ret (pe_op op_sub (pe_op op_mulW (pe_fld (pv 0) rfl) (pe_fld (pv 1) rfl)) (pe_op op_mulW (pe_fld (pv 1) rfl) (pe_fld (pv 0) rfl))))), ?_⟩
    obtain ⟨dx, ep⟩ := id hp
    rcases k with ⟨q, x', y', a', rfl, hq, b1, b2, b3, b4, k⟩ | ⟨hn, k⟩
    · obtain ⟨dy, eq⟩ := id hq
      refine ⟨_, rfl, _, rfl, .inl ⟨q, x', y', a', rfl, hq, ?_⟩⟩
      refine ⟨_, rfl, p, _, dx, _, _, rfl, ep, T.cl_Place, T.na_Place_x, flds_x x y a, _, rfl, q, _, dy, _, _, rfl, eq, T.cl_Place, T.na_Place_y, flds_y x' y' a', _, _, rfl, rfl, big_mul b1 b4, ?_⟩
      refine ⟨_, rfl, q, _, dy, _, _, rfl, eq, T.cl_Place, T.na_Place_x, flds_x x' y' a', _, rfl, p, _, dx, _, _, rfl, ep, T.cl_Place, T.na_Place_y, flds_y x y a, _, _, rfl, rfl, big_mul b3 b2, _, _, rfl, rfl, ?_⟩
      exact k
    · exact ⟨_, rfl, _, rfl, .inr ⟨hn, k⟩⟩
def sp_home_place (T : Tx K mg) : Sp := fun vs H Q E => vs = [] ∧ NewP T H Q 0 0 0
theorem ok_home_place (T : Tx K mg) : FnOk P w K mg base (L2.CX P w) 6 T.a_home_place T.d_home_place P_home_place (sp_home_place T) := by
  have G2 : FnOk P w K mg base (L2.CX P w) 4 _ _ _ _ := ok_Place_init T
  refine T.F_home_place.okX sc_home_place (fun vs H Q E h => ?_) (fun cdv A outer s H vs Q E hr h => ?_)
  · obtain ⟨rfl, _⟩ := h
    rfl
  · obtain ⟨rfl, k⟩ := h
    refine ⟨_, pss_one (ps_ret (pe_make T.M_Place G2 hr rfl T.g_C_Place T.b_Place_init .nil passL (pa_cons pe_int (pa_cons pe_int (pa_cons pe_int pa_nil))))), ?_⟩
    exact mk_place T fun r H' s n h => k r H' s n h
def sp_product_of (T : Tx K mg) : Sp := fun vs H Q E => ∃ (l : Addr) (xs : List V) (gs : List G), vs = [.ref l] ∧ SqL K H l xs ∧ gs.length ≤ 1000 ∧ (∀ g ∈ gs, Bd 100000 g.x ∧ Bd BIG g.y) ∧
  ((Pls T H xs gs ∧ NewP T H Q (G.prod gs).x (G.prod gs).y (G.prod gs).a) ∨ (∃ v r, Pls T H (xs.take gs.length) gs ∧ xs.drop gs.length = v :: r ∧ NoP T H v ∧ Err H E T.C_BadPlace "value" v))
theorem ok_product_of (T : Tx K mg) : FnOk P w K mg base (L2.CX P w) 8 T.a_product_of T.d_product_of P_product_of (sp_product_of T) := by
  have G1 : FnOk P w K mg base (L2.CX P w) 6 _ _ _ _ := ok_home_place T
  have G2 : FnOk P w K mg base (L2.CX P w) 6 _ _ _ _ := ok_Place_mul T
  refine T.F_product_of.okX sc_product_of (fun vs H Q E h => ?_) (fun cdv A outer s H vs Q E hr h => ?_)
  · obtain ⟨l, xs, gs, rfl, _⟩ := h
    rfl
  · obtain ⟨l, xs, gs, rfl, hl, hlen, hb, k⟩ := h
    refine ⟨_, pss_cons (ps_set (i := 1) sc_product_of.nd rfl (.inl rfl) (pe_call0 G1 (hr.mono (by decide)) rfl T.g_home_place T.F_home_place.kp T.b_home_place .nil passL))
      (pss_cons (ps_for (passes_of rfl) rfl (pi_list (pv 0)) (pg_name (i := 2) sc_product_of.nd rfl (.inl rfl))
        (pss_one (ps_set (i := 1) sc_product_of.nd rfl (.inl rfl) (pe_op (op_ownO T.O_Place_Mult G2 (hr.mono (by decide)) T.b_Place_mul (passE (E := E))) (pv 1) (pv 2)))))
      (pss_one (ps_ret (pv 1)))), ?_⟩
    refine ⟨rfl, fun r0 H0 s0 n0 p0 => ?_⟩
    have hpx := prod_x gs 100000 (fun g hg => (hb g hg).1)
    have bx : ∀ i, i ≤ gs.length → Bd BIG (G.prod (gs.take i)).x := fun i hi => (hpx i).mono (by show 100000 + i ≤ 400000; omega)
    refine ⟨_, rfl, l, rfl, ⟨_, s0.seq hl⟩, ?_⟩
    rcases k with ⟨hP, k⟩ | ⟨v0, rr, hP, hd, hn, k⟩
    · refine for_list (K := K) (a := l) (xs := xs) (fun i σ H1 => i ≤ gs.length ∧ ∃ r pv, σ = [some (.ref l), some (.ref r), pv] ∧ Same H H1 ∧ H r = none ∧ PG' T H1 r (G.prod (gs.take i)))
        ⟨Nat.zero_le _, r0, none, rfl, s0, n0, p0⟩ (fun i σ H1 _ ⟨_, _, _, _, s1, _⟩ => s1.seq hl) ?_ ?_
      · rintro i v σ H1 hi ⟨hil, r, pv0, rfl, s1, n1, p1⟩
        obtain ⟨dx, ep⟩ := id p1
        have hlt : i < gs.length := by rw [← hP.1]; exact (List.getElem?_eq_some_iff.mp hi).1
        have hg : gs[i]? = some gs[i] := List.getElem?_eq_getElem hlt
        obtain ⟨q, rfl, hq⟩ := hP.2 i v _ hi hg
        refine ⟨_, rfl, _, rfl, r, dx, _, .ref T.C_Place, rfl, ep, (hq.mono s1).ty, rt_of T (.inl rfl), r, .ref q, _, _, _, rfl, p1, .inl ⟨q, _, _, _, rfl, hq.mono s1, bx i hil, (hb _ (List.mem_of_getElem? hg)).2, fun r2 H2 s2 n2 p2 => ?_⟩⟩
        refine ⟨hlt, r2, _, rfl, s1.trans s2, s1.free n2, ?_⟩
        rw [take_snoc hg, G.prod_snoc]
        exact p2
      · rintro σ H1 ⟨_, r, pv0, rfl, s1, n1, p1⟩
        rw [hP.1, List.take_length] at p1
        exact ⟨_, rfl, k r H1 s1 n1 p1⟩
    · have hlen2 : gs.length < xs.length := by
        have e := congrArg List.length hd
        rw [List.length_drop] at e
        simp at e
        omega
      refine for_list (K := K) (a := l) (xs := xs) (fun i σ H1 => i ≤ gs.length ∧ ∃ r pv, σ = [some (.ref l), some (.ref r), pv] ∧ Same H H1 ∧ H r = none ∧ PG' T H1 r (G.prod (gs.take i)))
        ⟨Nat.zero_le _, r0, none, rfl, s0, n0, p0⟩ (fun i σ H1 _ ⟨_, _, _, _, s1, _⟩ => s1.seq hl) ?_ ?_
      · rintro i v σ H1 hi ⟨hil, r, pv0, rfl, s1, n1, p1⟩
        obtain ⟨dx, ep⟩ := id p1
        rcases Nat.lt_or_eq_of_le hil with hlt | heq
        · have hg : gs[i]? = some gs[i] := List.getElem?_eq_getElem hlt
          obtain ⟨q, rfl, hq⟩ := hP.2 i v _ (by rw [List.getElem?_take_of_lt hlt]; exact hi) hg
          refine ⟨_, rfl, _, rfl, r, dx, _, .ref T.C_Place, rfl, ep, (hq.mono s1).ty, rt_of T (.inl rfl), r, .ref q, _, _, _, rfl, p1, .inl ⟨q, _, _, _, rfl, hq.mono s1, bx i hil, (hb _ (List.mem_of_getElem? hg)).2, fun r2 H2 s2 n2 p2 => ?_⟩⟩
          refine ⟨hlt, r2, _, rfl, s1.trans s2, s1.free n2, ?_⟩
          rw [take_snoc hg, G.prod_snoc]
          exact p2
        · subst heq
          have e : v = v0 := by
            have e1 : (xs.drop gs.length)[0]? = some v := by rw [List.getElem?_drop]; simpa using hi
            rw [hd] at e1
            simpa using e1.symm
          subst e
          obtain ⟨t, ty, ht, _⟩ := hn.mono s1
          exact ⟨_, rfl, _, rfl, r, dx, _, t, rfl, ep, ty, rt_of T ht, r, v, _, _, _, rfl, p1, .inr ⟨hn.mono s1, k.mono s1⟩⟩
      · rintro σ H1 ⟨hle, _⟩
        omega
end
end AW

set_option linter.all false
set_option maxRecDepth 100000
set_option maxHeartbeats 4000000
namespace AW
open PySem PySem.Spec PyProof.Rows L2
/-! ### the pen -/
abbrev kC : Key := Sum.inr "cells"
abbrev kS : Key := Sum.inr "stop"
abbrev kR : Key := Sum.inr "rest"
theorem kCS : ¬ (kC = kS) := by decide +kernel
theorem kCR : ¬ (kC = kR) := by decide +kernel
theorem kSR : ¬ (kS = kR) := by decide +kernel
theorem kSC : ¬ (kS = kC) := by decide +kernel
theorem kRC : ¬ (kR = kC) := by decide +kernel
theorem kRS : ¬ (kR = kS) := by decide +kernel
def penD (c : Addr) (s r : Int) : List (Key × V) := [(kC, .ref c), (kS, .int s), (kR, .int r)]
theorem pen_c (c : Addr) (s r : Int) : valV (penD c s r) kC = some (.ref c) := valV_pos rfl
theorem pen_s (c : Addr) (s r : Int) : valV (penD c s r) kS = some (.int s) := (valV_neg kCS).trans (valV_pos rfl)
theorem pen_r (c : Addr) (s r : Int) : valV (penD c s r) kR = some (.int r) := (valV_neg kCR).trans ((valV_neg kSR).trans (valV_pos rfl))
theorem pen_ps (c : Addr) (s r z : Int) : putK (penD c s r) kS (.int z) = penD c z r := by
  unfold putK
  rw [if_pos (by rw [valV_any, pen_s]; rfl)]
  show [if kC = kS then (kC, V.int z) else (kC, V.ref c), if kS = kS then (kS, V.int z) else (kS, V.int s), if kR = kS then (kR, V.int z) else (kR, V.int r)] = penD c z r
  rw [if_neg kCS, if_pos rfl, if_neg kRS]
  rfl
theorem pen_pr (c : Addr) (s r z : Int) : putK (penD c s r) kR (.int z) = penD c s z := by
  unfold putK
  rw [if_pos (by rw [valV_any, pen_r]; rfl)]
  show [if kC = kR then (kC, V.int z) else (kC, V.ref c), if kS = kR then (kS, V.int z) else (kS, V.int s), if kR = kR then (kR, V.int z) else (kR, V.int r)] = penD c s z
  rw [if_neg kCR, if_neg kSR, if_pos rfl]
  rfl
theorem pen_mk (c : Addr) (s r : Int) : mergeK [] [(kC, .ref c), (kS, .int s), (kR, .int r)] = penD c s r := by
  unfold mergeK
  show putK (putK (putK [] kC (.ref c)) kS (.int s)) kR (.int r) = penD c s r
  rw [putK_new _ valV_nil]
  rw [putK_new _ (show valV ([] ++ [(kC, V.ref c)]) kS = none from valV_neg kCS)]
  rw [putK_new _ (show valV ([] ++ [(kC, V.ref c)] ++ [(kS, V.int s)]) kR = none from (valV_neg kCR).trans (valV_neg kSR))]
  rfl
/-- the pen at p: its cells, at most 63 ints; no more than B stops so far -/
structure Pen (H : Hp) (p : Addr) (B : Int) : Prop where
  at_ : ∃ (c : Addr) (ns : List Int) (s r : Int), H p = some (.dK (penD c s r)) ∧ H c = some (.lst (ns.map V.int)) ∧ ns.length ≤ 63 ∧ 0 ≤ s ∧ s ≤ B
theorem dg_c {H : Hp} {p c : Addr} {s r : Int} (e : H p = some (.dK (penD c s r))) : DGet H p (.str "cells") (some (.ref c)) := by
  have h := DGet.k (k := kC) e
  rw [pen_c] at h
  exact h
theorem dg_s {H : Hp} {p c : Addr} {s r : Int} (e : H p = some (.dK (penD c s r))) : DGet H p (.str "stop") (some (.int s)) := by
  have h := DGet.k (k := kS) e
  rw [pen_s] at h
  exact h
theorem dg_r {H : Hp} {p c : Addr} {s r : Int} (e : H p = some (.dK (penD c s r))) : DGet H p (.str "rest") (some (.int r)) := by
  have h := DGet.k (k := kR) e
  rw [pen_r] at h
  exact h
theorem dp_s {H : Hp} {p c : Addr} {s r z : Int} (e : H p = some (.dK (penD c s r))) : DPut H p (.str "stop") (.int z) (upd H p (.dK (penD c z r))) := by
  have h := DPut.k (k := kS) (v := .int z) e (by show 3 < sizeLine; decide)
  rw [pen_ps] at h
  exact h
theorem dp_r {H : Hp} {p c : Addr} {s r z : Int} (e : H p = some (.dK (penD c s r))) : DPut H p (.str "rest") (.int z) (upd H p (.dK (penD c s z))) := by
  have h := DPut.k (k := kR) (v := .int z) e (by show 3 < sizeLine; decide)
  rw [pen_pr] at h
  exact h
/-- all but the pen stays -/
structure But (p : Addr) (H H' : Hp) : Prop where
  st : ∀ b o, b ≠ p → H b = some o → H' b = some o
  cl : ∀ c s r, H p = some (.dK (penD c s r)) → ∃ s' r', H' p = some (.dK (penD c s' r'))
theorem But.refl {p : Addr} (H : Hp) : But p H H := ⟨fun _ _ _ h => h, fun _ s r h => ⟨s, r, h⟩⟩
theorem But.trans {p : Addr} {H H1 H2 : Hp} (a : But p H H1) (b : But p H1 H2) : But p H H2 :=
  ⟨fun c o n h => b.st c o n (a.st c o n h), fun c s r h => by
    obtain ⟨s1, r1, h1⟩ := a.cl c s r h
    exact b.cl c s1 r1 h1⟩
theorem But.of {p : Addr} {H H' : Hp} (s : Same H H') : But p H H' := ⟨fun b o _ h => s b o h, fun c z r h => ⟨z, r, s _ _ h⟩⟩
theorem penD_inj {c c' : Addr} {s r s' r' : Int} (h : penD c s r = penD c' s' r') : c = c' := by
  injection h with h1 _
  injection h1 with _ h2
  injection h2
theorem But.upd {p c : Addr} {z r z' r' : Int} {H H' : Hp} (s : But p H H') (e : H' p = some (.dK (penD c z r))) : But p H (upd H' p (.dK (penD c z' r'))) :=
  ⟨fun b u n h => by rw [upd_ne n]; exact s.st b u n h, fun c2 s2 r2 h => by
    obtain ⟨s3, r3, h3⟩ := s.cl c2 s2 r2 h
    rw [e] at h3
    injection h3 with h3
    injection h3 with h3
    rw [penD_inj h3] at *
    exact ⟨z', r', upd_same⟩⟩
theorem But.new {p q : Addr} {H H' : Hp} {o : HO} (s : But p H H') (h : H' q = none) : But p H (L2.upd H' q o) :=
  ⟨fun b u n e => by
    have e' := s.st b u n e
    rw [upd_ne (ne_of_none e' h)]
    exact e', fun c z r e => by
    obtain ⟨z1, r1, e1⟩ := s.cl c z r e
    exact ⟨z1, r1, by rw [upd_ne (ne_of_none e1 h)]; exact e1⟩⟩
theorem Pen.mono {H H' : Hp} {p : Addr} {B B' : Int} (h : Pen H p B) (l : B ≤ B') (s : Same H H') : Pen H' p B' := by
  obtain ⟨c, ns, z, r, e1, e2, h1, h2, h3⟩ := h.at_
  exact ⟨⟨c, ns, z, r, s _ _ e1, s _ _ e2, h1, h2, Int.le_trans h3 l⟩⟩
theorem Pen.le {H : Hp} {p : Addr} {B B' : Int} (h : Pen H p B) (l : B ≤ B') : Pen H p B' := h.mono l (Same.refl H)
theorem fmod_in {a b : Int} (h : 0 < b) : 0 ≤ a.fmod b ∧ a.fmod b < b := ⟨Int.fmod_nonneg_of_pos a h, Int.fmod_lt_of_pos a h⟩
section
variable {P : Program} {w : World} {K : PySem.W.Frag} {mg : Str → Option Value} {base : Heap}
def sp_l_pen (T : Tx K mg) : Sp := fun vs H Q E => ∃ (a : Addr) (ns : List Int), vs = [.ref a] ∧ SqL K H a (ns.map V.int) ∧ ns.length ≤ 63 ∧ ∀ p H', Same H H' → H p = none → Pen H' p 0 → Q (.ref p) H'
theorem ok_l_pen (T : Tx K mg) : FnOk P w K mg base (L2.CX P w) 1 T.a_l_pen T.d_l_pen P_l_pen (sp_l_pen T) := by
  refine T.F_l_pen.okX sc_l_pen (fun vs H Q E h => ?_) (fun cdv A outer s H vs Q E hr h => ?_)
  · obtain ⟨a, ns, rfl, _⟩ := h
    rfl
  · obtain ⟨a, ns, rfl, hS, hlen, k⟩ := h
    refine ⟨_, pss_one (ps_ret (pe_disp (pps_cons pe_str (pe_callTy call_list_of rfl T.n_list (by decide +kernel) (pa_cons (pe_slice sl_list (pv 0) po_none (po_some pe_int)) pa_nil))
      (pps_cons pe_str pe_int (pps_cons pe_str pe_int pps_nil))) (by rfl) (by rfl) (fun z => by cases z) (by decide))), ?_⟩
    refine fun p np => ?_
    have s1 : Same H (upd H p (.dK [])) := Same.laid np
    refine ⟨_, rfl, _, rfl, a, _, rfl, s1.seq hS, fun q nq => ⟨q, _, rfl, .inl (.of upd_same), fun l nl => ?_⟩⟩
    have npq : p ≠ q := ne_of_none upd_same nq
    have nql : q ≠ l := ne_of_none upd_same nl
    have npl : p ≠ l := ne_of_none (by rw [upd_ne npq]; exact upd_same) nl
    refine ⟨by rw [upd_ne npl, upd_ne npq, upd_same], [(kC, .ref l), (kS, .int 0), (kR, .int 0)], rfl, (by show 3 ≤ 15; decide), ?_⟩
    have hcut : cutV (ns.map V.int) none (some 63) = ns.map V.int := by
      unfold cutV
      have e1 : HT.sIx (ns.map V.int).length 0 none = 0 := rfl
      have e2 : (ns.map V.int).length ≤ 63 := by rw [List.length_map]; exact hlen
      rw [e1]
      show ((ns.map V.int).drop 0).take _ = _
      rw [List.drop_zero, List.take_of_length_le]
      have e3 : HT.sIx (ns.map V.int).length (ns.map V.int).length (some 63) = (ns.map V.int).length := by
        simp [HT.sIx]
        omega
      rw [e3]
      omega
    have sF : Same H (upd (upd (upd (upd H p (.dK [])) q (.lst (cutV (ns.map V.int) none (some 63)))) l (.lst (cutV (ns.map V.int) none (some 63)))) p (.dK (mergeK [] [(kC, .ref l), (kS, .int 0), (kR, .int 0)]))) := fun b o e => by
      have nb : b ≠ p := ne_of_none e np
      have e1 : upd H p (.dK []) b = some o := by rw [upd_ne nb]; exact e
      have nq' : b ≠ q := ne_of_none e1 nq
      have e2 : upd (upd H p (.dK [])) q (.lst (cutV (ns.map V.int) none (some 63))) b = some o := by rw [upd_ne nq']; exact e1
      rw [upd_ne nb, upd_ne (ne_of_none e2 nl)]
      exact e2
    refine k p _ sF np ⟨l, ns, 0, 0, ?_, ?_, hlen, Int.le_refl _, Int.le_refl _⟩
    · rw [pen_mk]; exact upd_same
    · rw [upd_ne npl.symm, upd_same, hcut]
end
end AW

set_option linter.all false
set_option maxRecDepth 100000
set_option maxHeartbeats 8000000
namespace AW
open PySem PySem.Spec PyProof.Rows L2
section
variable {P : Program} {w : World} {K : PySem.W.Frag} {mg : Str → Option Value} {base : Heap}
theorem dp_ints {K : PySem.W.Frag} {H : Hp} : ∀ ms : List Int, DpAll K H (ms.map V.int) (ms.map PyData.int)
  | [] => .nil
  | m :: r => .cons (.int m) (dp_ints r)
theorem sh_ints (ms : List Int) : SeqAt.shaped (.list (ms.map PyData.int)) = true := PySem.W.ke_shaped_ints ms
/-- a drawn number, the pen a stop further at most -/
def Drawn (H : Hp) (Q : VK) (p : Addr) (B : Int) (ok : Int → Prop) : Prop := ∀ (d : Int) (H' : Hp), ok d → But p H H' → Pen H' p B → Q (.int d) H'
def sp_l_draw (T : Tx K mg) : Sp := fun vs H Q E => ∃ (p : Addr) (n B : Int), vs = [.ref p, .int n] ∧ 0 < n ∧ n < 1073741824 ∧ Pen H p B ∧ B ≤ 1000000 ∧ Drawn H Q p (B + 1) fun d => 0 ≤ d ∧ d < n
theorem ok_l_draw (T : Tx K mg) : FnOk P w K mg base (L2.CX P w) 1 T.a_l_draw T.d_l_draw P_l_draw (sp_l_draw T) := by
  refine T.F_l_draw.okX sc_l_draw (fun vs H Q E h => ?_) (fun cdv A outer s H vs Q E hr h => ?_)
  · obtain ⟨p, n, B, rfl, _⟩ := h
    rfl
  · obtain ⟨p, n, B, rfl, h0, h1, hp, hB, k⟩ := h
    have hu := hu_of hr
    obtain ⟨c, ns, st, rs, e1, e2, hl, hs0, hsB⟩ := hp.at_
    have npc : p ≠ c := ne_of e1 e2 (by intro z; cases z)
    refine ⟨_, (pss_cons (ps_if (pt_cmpR op_ge (pe_dget hu (pv 0) pe_str (fun _ _ => rfl)) (pv 1) (nomark _))
 (pss_cons (ps_set (i := 2) sc_l_draw.nd rfl (.inl rfl) (pe_op op_modN (pe_callTy call_int1 (by rfl) T.n_int (by decide +kernel) (pa_cons (pe_dget hu (pv 0) pe_str (fun _ _ => rfl)) pa_nil)) (pv 1)))
 (pss_cons (ps_dput hu (pv 0) pe_str (pe_op op_fdivN (pe_dget hu (pv 0) pe_str (fun _ _ => rfl)) (pv 1)) rfl)
 (pss_one (ps_ret (pv 2)))))
 pss_nil)
 (pss_cons (ps_set (i := 3) sc_l_draw.nd rfl (.inl rfl) (pe_dget hu (pv 0) pe_str (fun _ _ => rfl)))
 (pss_cons (ps_dput hu (pv 0) pe_str (pe_op op_add (pv 3) pe_int) rfl)
 (pss_cons (ps_set (i := 4) sc_l_draw.nd rfl (.inl rfl) (pe_op op_add (pe_op op_mul pe_int (pv 3)) pe_int))
 (pss_cons (ps_if (pt_cmpR (op_neD hr.units) (pe_dget hu (pv 0) pe_str (fun _ _ => rfl)) (pe_lst pa_nil) (nomark _))
 (pss_one (ps_set (i := 4) sc_l_draw.nd rfl (.inl rfl) (pe_ix ix_list (pe_dget hu (pv 0) pe_str (fun _ _ => rfl)) (pe_op op_modN (pe_callTy call_int1 (by rfl) T.n_int (by decide +kernel) (pa_cons (pv 3) pa_nil)) (pe_callB call_len_seq (by rfl) T.n_len (by decide +kernel) (pa_cons (pe_dget hu (pv 0) pe_str (fun _ _ => rfl)) pa_nil))) (fun _ _ => rfl))))
 pss_nil)
 (pss_cons (ps_if (PW.pt (pw_and (pt_cmpR op_lt (pv 3) (pe_callB call_len_seq (by rfl) T.n_len (by decide +kernel) (pa_cons (pe_dget hu (pv 0) pe_str (fun _ _ => rfl)) pa_nil)) (nomark _)) (pw_and1 (pt_cmpR op_ge (pv 4) (pe_op op_pow pe_int pe_int) (nomark _)))))
 (pss_cons (ps_dput hu (pv 0) pe_str (pe_op op_fdivN (pe_op op_sub (pv 4) (pe_op op_pow pe_int pe_int)) (pv 1)) rfl)
 (pss_one (ps_ret (pe_op op_modN (pe_callTy call_int1 (by rfl) T.n_int (by decide +kernel) (pa_cons (pe_op op_sub (pv 4) (pe_op op_pow pe_int pe_int)) pa_nil)) (pv 1)))))
 pss_nil)
 (pss_cons (ps_set (i := 5) sc_l_draw.nd rfl (.inl rfl) (pe_op op_mul (pe_op op_modN (pe_callTy call_int1 (by rfl) T.n_int (by decide +kernel) (pa_cons (pv 4) pa_nil)) pe_int) pe_int))
 (pss_cons (ps_set (i := 5) sc_l_draw.nd rfl (.inl rfl) (pe_op op_modN (pe_callTy call_int1 (by rfl) T.n_int (by decide +kernel) (pa_cons (pe_op op_add (pe_op op_add (pe_op op_add (pv 5) (pe_op op_mul (pe_op op_mul pe_int (pv 3)) (pv 3))) (pe_op op_mul pe_int (pv 3))) pe_int) pa_nil)) pe_int))
 (pss_cons (ps_set (i := 5) sc_l_draw.nd rfl (.inl rfl) (pe_op op_modN (pe_callTy call_int1 (by rfl) T.n_int (by decide +kernel) (pa_cons (pe_op op_mul (pv 5) (pe_op op_add (pv 5) pe_int)) pa_nil)) pe_int))
 (pss_one (ps_ret (pe_op op_modN (pe_callTy call_int1 (by rfl) T.n_int (by decide +kernel) (pa_cons (pe_op op_fdivN (pe_op op_modN (pe_callTy call_int1 (by rfl) T.n_int (by decide +kernel) (pa_cons (pe_op op_add (pe_op op_mul (pv 5) (pv 5)) (pe_op op_mul pe_int (pv 5))) pa_nil)) pe_int) pe_int) pa_nil)) (pv 1))))))))))))), ?_⟩
    have dn : CDivN rs n := ⟨by omega, by omega⟩
    refine ⟨_, rfl, p, _, rfl, dg_r e1, _, rfl, _, _, rfl, rfl, _, rfl, ?_⟩
    refine ite2 (fun _ => ?_) (fun _ => ?_)
    · refine ⟨_, rfl, p, _, rfl, dg_r e1, .inl ⟨_, rfl, _, rfl, _, _, rfl, rfl, (by omega), ?_⟩⟩
      refine ⟨_, rfl, p, _, rfl, dg_r e1, _, rfl, _, _, rfl, rfl, dn, _, rfl, p, _, rfl, dp_r e1, ?_⟩
      refine ⟨_, rfl, k _ _ (fmod_in h0) (But.upd (But.refl H) e1) ⟨c, ns, st, _, upd_same, by rw [upd_ne npc.symm]; exact e2, hl, hs0, by omega⟩⟩
    · refine ⟨_, rfl, p, _, rfl, dg_s e1, ?_⟩
      refine ⟨_, rfl, _, _, rfl, rfl, _, rfl, p, _, rfl, dp_s e1, ?_⟩
      refine ⟨_, rfl, _, _, rfl, rfl, .inl ⟨by decide, by decide⟩, _, _, rfl, rfl, ?_⟩
      have hp1 : upd H p (.dK (penD c (st + 1) rs)) p = some (.dK (penD c (st + 1) rs)) := upd_same
      have hc1 : upd H p (.dK (penD c (st + 1) rs)) c = some (.lst (ns.map V.int)) := by rw [upd_ne npc.symm]; exact e2
      have b1 : But p H (upd H p (.dK (penD c (st + 1) rs))) := But.upd (But.refl H) e1
      generalize upd H p (.dK (penD c (st + 1) rs)) = H1 at hp1 hc1 b1 ⊢
      refine ⟨_, rfl, p, _, rfl, dg_c hp1, (by show 0 ≤ sizeLine; decide), fun e0 ne0 => ?_⟩
      have se0 : Same H1 (upd H1 e0 (.lst [])) := Same.laid ne0
      have hp2 := se0 _ _ hp1
      have hc2 := se0 _ _ hc1
      have b2 : But p H (upd H1 e0 (.lst [])) := b1.new ne0
      have he2 : upd H1 e0 (.lst []) e0 = some (.lst []) := upd_same
      generalize upd H1 e0 (.lst []) = H2 at hp2 hc2 b2 he2 ⊢
      refine ⟨.list (ns.map PyData.int), .list [], .lst (SqL.of hc2) (dp_ints ns), .lst (SqL.of he2) .nil, sh_ints ns, rfl, _, rfl, ?_⟩
      have dz : ∀ z : Int, CDivN z n := fun z => ⟨by omega, by omega⟩
      have n0 : n ≠ 0 := by omega
      have cp : CPow 10 18 := ⟨by decide, by decide, by decide⟩
      have nzA : (2147483269 : Int) ≠ 0 := by decide
      have nzB : (2147483323 : Int) ≠ 0 := by decide
      have nzC : (2147483353 : Int) ≠ 0 := by decide
      have nzD : (2147483399 : Int) ≠ 0 := by decide
      have bB : ∀ x : Int, -(2 ^ 64) < x.fmod 2147483323 ∧ x.fmod 2147483323 < 2 ^ 64 := fun x => by have := fmod_in (a := x) (b := 2147483323) (by decide); omega
      have bC : ∀ x : Int, -(2 ^ 64) < x.fmod 2147483353 ∧ x.fmod 2147483353 < 2 ^ 64 := fun x => by have := fmod_in (a := x) (b := 2147483353) (by decide); omega
      have kk : ∀ (z : Int) H', But p H H' → Pen H' p (B + 1) → Q (.int (z.fmod n)) H' := fun z H' b q => k _ H' (fmod_in h0) b q
      have P2 : ∀ H', (∃ r, H' p = some (.dK (penD c (st + 1) r))) → H' c = some (.lst (ns.map V.int)) → Pen H' p (B + 1) := fun H' ⟨r, e⟩ e' => ⟨c, ns, st + 1, r, e, e', hl, by omega, by omega⟩
      refine ite2 (fun hne => ?_) (fun _ => ?_)
      focus
        have hpos : 0 < ns.length := by
          cases ns with
          | nil => exact absurd hne (by decide)
          | cons a r => exact Nat.succ_pos _
        have hm := fmod_in (a := st) (b := (ns.length : Int)) (by omega)
        have hi : ∃ z, atI (ns.map V.int) (st.fmod ((ns.map V.int).length : Int)) = some (.int z) := by
          rw [List.length_map]
          obtain ⟨j, hj⟩ := Int.eq_ofNat_of_zero_le hm.1
          have hj2 : j < ns.length := by omega
          refine ⟨ns[j], ?_⟩
          rw [hj, atI_nat (by rw [List.getElem?_map, List.getElem?_eq_getElem hj2]; rfl)]
        obtain ⟨z, hz⟩ := hi
        refine ⟨_, rfl, p, _, rfl, dg_c hp2, _, rfl, .inl ⟨_, rfl, _, rfl, p, _, rfl, dg_c hp2, c, _, rfl, .inl (SqL.of hc2), _, _, rfl, rfl, (by rw [List.length_map]; omega), c, _, _, _, rfl, rfl, SqL.of hc2, hz, ?_⟩⟩
        clear hz hm hne hpos
      all_goals
        refine ⟨_, rfl, _, rfl, p, _, rfl, dg_c hp2, c, _, rfl, .inl (SqL.of hc2), _, _, rfl, rfl, _, rfl, ?_⟩
        refine ite2 (fun _ => ?_) (fun _ => ?_)
        focus
          refine ⟨_, rfl, _, _, rfl, rfl, cp, _, _, rfl, rfl, _, rfl, ?_⟩
          refine ite2 (fun _ => ?_) (fun _ => ?_)
          focus
            refine ⟨_, rfl, _, _, rfl, rfl, cp, _, _, rfl, rfl, _, rfl, _, _, rfl, rfl, dz _, _, rfl, p, _, rfl, dp_r hp2, ?_⟩
            refine ⟨_, rfl, _, _, rfl, rfl, cp, _, _, rfl, rfl, .inl ⟨_, rfl, _, rfl, _, _, rfl, rfl, n0, ?_⟩⟩
            exact kk _ _ (b2.upd hp2) (P2 _ ⟨_, upd_same⟩ (by rw [upd_ne npc.symm]; exact hc2))
        rotate_left
        focus
          refine iteF ?_
        all_goals
          refine ⟨_, rfl, .inl ⟨_, rfl, _, _, rfl, rfl, nzA, _, _, rfl, rfl, .inr ⟨by decide, by decide⟩, ?_⟩⟩
          refine ⟨_, rfl, _, rfl, _, _, rfl, rfl, .inl ⟨by decide, by decide⟩, _, rfl, _, _, rfl, rfl, .inr ⟨by omega, by omega⟩, _, _, rfl, rfl, ?_⟩
          refine ⟨_, rfl, _, _, rfl, rfl, .inl ⟨by decide, by decide⟩, _, _, rfl, rfl, _, _, rfl, rfl, .inl ⟨_, rfl, _, _, rfl, rfl, nzB, ?_⟩⟩
          refine ⟨_, rfl, _, rfl, _, _, rfl, rfl, _, _, rfl, rfl, .inl (bB _), .inl ⟨_, rfl, _, _, rfl, rfl, nzC, ?_⟩⟩
          refine ⟨_, rfl, _, rfl, _, _, rfl, rfl, .inl (bC _), _, rfl, _, _, rfl, rfl, .inl ⟨by decide, by decide⟩, _, _, rfl, rfl, .inl ⟨_, rfl, _, _, rfl, rfl, nzD, ?_⟩⟩
          refine ⟨_, _, rfl, rfl, ⟨by decide, by decide⟩, .inl ⟨_, rfl, _, rfl, _, _, rfl, rfl, n0, ?_⟩⟩
          exact kk _ _ b2 (P2 _ ⟨_, hp2⟩ hc2)
end
end AW

set_option linter.all false
set_option maxRecDepth 100000
set_option maxHeartbeats 8000000
namespace AW
open PySem PySem.Spec PyProof.Rows L2
section
variable {P : Program} {w : World} {K : PySem.W.Frag} {mg : Str → Option Value} {base : Heap}
def sp_l_pick (T : Tx K mg) : Sp := fun vs H Q E => ∃ (p : Addr) (it : V) (B : Int), vs = [.ref p, it] ∧ Pen H p B ∧ B ≤ 1000000 ∧
  ((∃ l xs, it = .ref l ∧ H l = some (.lst xs) ∧ 0 < xs.length ∧ xs.length ≤ 1000 ∧ ∀ v H', v ∈ xs → But p H H' → Pen H' p (B + 1) → Q v H') ∨
   (∃ z : Str, it = .str z ∧ 0 < z.length ∧ z.length ≤ 1000 ∧ ∀ c H', c ∈ z.cps.toList → But p H H' → Pen H' p (B + 1) → Q (.str ⟨#[c]⟩) H'))
theorem str_len (z : Str) : z.cps.toList.length = z.length := by
  show z.cps.toList.length = z.cps.size
  simp
theorem ok_l_pick (T : Tx K mg) : FnOk P w K mg base (L2.CX P w) 2 T.a_l_pick T.d_l_pick P_l_pick (sp_l_pick T) := by
  have G_l_draw : FnOk P w K mg base (L2.CX P w) 1 _ _ _ _ := ok_l_draw T
  refine T.F_l_pick.okX sc_l_pick (fun vs H Q E h => ?_) (fun cdv A outer s H vs Q E hr h => ?_)
  · obtain ⟨p, it, B, rfl, _⟩ := h
    rfl
  · obtain ⟨p, it, B, rfl, hp, hB, k⟩ := h
    refine ⟨_, (pss_one (ps_ret (pe_ix ix_seq (pv 1) (pe_call G_l_draw (hr.mono (by decide)) (by rfl) T.g_l_draw T.F_l_draw.kp T.b_l_draw .nil passL (pa_cons (pv 0) (pa_cons (pe_callB call_len (by rfl) T.n_len (by decide +kernel) (pa_cons (pv 1) pa_nil)) pa_nil))) (fun _ _ => rfl)))), ?_⟩
    have sl : (1000 : Nat) ≤ sizeLine := by decide
    rcases k with ⟨l, xs, rfl, hl, h0, h1, k⟩ | ⟨z, rfl, h0, h1, k⟩
    · refine ⟨_, rfl, _, rfl, _, rfl, _, xs.length, rfl, .inl ⟨xs, SqL.of hl, rfl⟩, ?_⟩
      refine ⟨p, _, B, rfl, by omega, by omega, hp, hB, fun d H' hd b q => ?_⟩
      obtain ⟨j, rfl⟩ := Int.eq_ofNat_of_zero_le hd.1
      have hj : j < xs.length := by omega
      have hn : l ≠ p := by
        obtain ⟨c, ns, st, r, e1, _⟩ := hp.at_
        exact ne_of hl e1 (by intro z; cases z)
      exact .inl ⟨l, xs, _, xs[j], rfl, rfl, SqL.of (b.st _ _ hn hl), atI_nat (List.getElem?_eq_getElem hj), k _ _ (List.getElem_mem hj) b q⟩
    · refine ⟨_, rfl, _, rfl, _, rfl, _, z.length, rfl, ⟨by omega, rfl⟩, ?_⟩
      refine ⟨p, _, B, rfl, by omega, by omega, hp, hB, fun d H' hd b q => ?_⟩
      obtain ⟨j, rfl⟩ := Int.eq_ofNat_of_zero_le hd.1
      have hj : j < z.cps.toList.length := by rw [str_len]; omega
      exact .inr (.inr ⟨z, _, z.cps.toList[j], rfl, rfl, by omega, atI_nat (List.getElem?_eq_getElem hj), k _ _ (List.getElem_mem hj) b q⟩)
def sp_l_big (T : Tx K mg) : Sp := fun vs H Q E => ∃ (p : Addr) (n B : Int), vs = [.ref p, .int n] ∧ 0 < n ∧ Pen H p B ∧ B ≤ 900000 ∧ Drawn H Q p (B + 24) fun d => 0 ≤ d ∧ d < n
theorem ok_l_big (T : Tx K mg) : FnOk P w K mg base (L2.CX P w) 2 T.a_l_big T.d_l_big P_l_big (sp_l_big T) := by
  have G_l_draw : FnOk P w K mg base (L2.CX P w) 1 _ _ _ _ := ok_l_draw T
  refine T.F_l_big.okX sc_l_big (fun vs H Q E h => ?_) (fun cdv A outer s H vs Q E hr h => ?_)
  · obtain ⟨p, n, B, rfl, _⟩ := h
    rfl
  · obtain ⟨p, n, B, rfl, h0, hp, hB, k⟩ := h
    refine ⟨_, (pss_cons (ps_if (pt_cmpR op_lt (pv 1) (pe_op op_pow pe_int pe_int) (nomark _))
 (pss_one (ps_ret (pe_call G_l_draw (hr.mono (by decide)) (by rfl) T.g_l_draw T.F_l_draw.kp T.b_l_draw .nil passL (pa_cons (pv 0) (pa_cons (pv 1) pa_nil)))))
 pss_nil)
 (pss_cons (ps_set (i := 2) sc_l_big.nd rfl (.inl rfl) pe_int)
 (pss_cons (ps_for (passes_of rfl) rfl (pi_range1 (by rfl) T.n_range (pa_cons pe_int pa_nil)) (pg_name (i := 3) sc_l_big.nd rfl (.inl rfl))
 (pss_cons (ps_set (i := 2) sc_l_big.nd rfl (.inl rfl) (pe_op op_add (pe_op op_mul (pv 2) (pe_op op_pow pe_int pe_int)) (pe_call G_l_draw (hr.mono (by decide)) (by rfl) T.g_l_draw T.F_l_draw.kp T.b_l_draw .nil passL (pa_cons (pv 0) (pa_cons (pe_op op_pow pe_int pe_int) pa_nil)))))
 (pss_one (ps_if (pt_cmpR op_gt (pv 2) (pe_op op_mul (pv 1) (pe_op op_pow pe_int pe_int)) (nomark _))
 (pss_one (ps_ret (pe_op op_modN (pv 2) (pv 1))))
 pss_nil))))
 (pss_one (ps_ret (pe_op op_modN (pv 2) (pv 1))))))), ?_⟩
    have c7 : CPow 10 7 := ⟨by decide, by decide, by decide⟩
    have c5 : CPow 10 5 := ⟨by decide, by decide, by decide⟩
    have e7 : (10 : Int) ^ (7 : Int).toNat = 10000000 := by decide
    have e5 : (10 : Int) ^ (5 : Int).toNat = 100000 := by decide
    have s5 : -(2 ^ 64) < (10 : Int) ^ (5 : Int).toNat ∧ (10 : Int) ^ (5 : Int).toNat < 2 ^ 64 := by decide
    refine ⟨_, rfl, _, _, rfl, rfl, c7, _, _, rfl, rfl, _, rfl, ?_⟩
    refine ite2 (fun hlt => ?_) (fun _ => ?_)
    · have hlt := of_decide_eq_true hlt
      rw [e7] at hlt
      refine ⟨_, rfl, _, rfl, p, n, B, rfl, h0, by omega, hp, by omega, fun d H' hd b q => k d H' hd b (q.le (by omega))⟩
    · refine ⟨24, rfl, by decide, by decide, for_range (n := 24) (fun i σ H1 => ∃ (f : Int) (v : Option V), σ = [some (.ref p), some (.int n), some (.int f), v] ∧ But p H H1 ∧ Pen H1 p (B + i)) ?_ ?_ ?_⟩
      · exact ⟨0, none, rfl, But.refl H, by simpa using hp⟩
      · rintro i σ H1 hi ⟨f, v, rfl, b1, q1⟩
        refine ⟨_, rfl, _, _, rfl, rfl, c5, _, _, rfl, rfl, .inr s5, _, rfl, _, _, rfl, rfl, c5, p, _, _, rfl, by rw [e5]; decide, by rw [e5]; decide, q1, by omega, fun d H' hd b q => ?_⟩
        refine ⟨_, _, rfl, rfl, _, rfl, _, rfl, _, _, rfl, rfl, c5, _, _, rfl, rfl, .inr s5, _, _, rfl, rfl, _, rfl, ?_⟩
        refine ite2 (fun _ => ?_) (fun _ => ?_)
        · exact ⟨_, rfl, _, rfl, _, _, rfl, rfl, (by show n ≠ 0; omega), k _ _ (fmod_in h0) (b1.trans b) (q.le (by omega))⟩
        · exact ⟨_, _, rfl, b1.trans b, q.le (by omega)⟩
      · rintro σ H1 ⟨f, v, rfl, b1, q1⟩
        exact ⟨_, rfl, _, rfl, _, _, rfl, rfl, (by show n ≠ 0; omega), k _ _ (fmod_in h0) b1 (q1.le (by omega))⟩
def sp_l_whole (T : Tx K mg) : Sp := fun vs H Q E => ∃ (p : Addr) (n B : Int), vs = [.ref p, .int n] ∧ 0 ≤ n ∧ Pen H p B ∧ B ≤ 900000 ∧ Drawn H Q p (B + 24) fun d => -n ≤ d ∧ d ≤ n
theorem ok_l_whole (T : Tx K mg) : FnOk P w K mg base (L2.CX P w) 3 T.a_l_whole T.d_l_whole P_l_whole (sp_l_whole T) := by
  have G_l_big : FnOk P w K mg base (L2.CX P w) 2 _ _ _ _ := ok_l_big T
  refine T.F_l_whole.okX sc_l_whole (fun vs H Q E h => ?_) (fun cdv A outer s H vs Q E hr h => ?_)
  · obtain ⟨p, n, B, rfl, _⟩ := h
    rfl
  · obtain ⟨p, n, B, rfl, h0, hp, hB, k⟩ := h
    refine ⟨_, (pss_one (ps_ret (pe_op op_sub (pe_call G_l_big (hr.mono (by decide)) (by rfl) T.g_l_big T.F_l_big.kp T.b_l_big .nil passL (pa_cons (pv 0) (pa_cons (pe_op op_add (pe_op op_mul pe_int (pv 1)) pe_int) pa_nil))) (pv 1)))), ?_⟩
    refine ⟨_, rfl, _, rfl, _, _, rfl, rfl, .inl ⟨by decide, by decide⟩, _, _, rfl, rfl, p, _, B, rfl, by omega, hp, hB, fun d H' hd b q => ?_⟩
    exact ⟨_, rfl, _, _, rfl, rfl, k _ _ ⟨by omega, by omega⟩ b q⟩
/-- a new Place comes back, the pen further on -/
def NewPD (T : Tx K mg) (H : Hp) (Q : VK) (p : Addr) (B : Int) (ok : G → Prop) : Prop := ∀ (r : Addr) (H' : Hp) (g : G), But p H H' → H r = none → PG' T H' r g → ok g → Pen H' p B → Q (.ref r) H'
def sp_l_place (T : Tx K mg) : Sp := fun vs H Q E => ∃ (p : Addr) (n B : Int), vs = [.ref p, .int n] ∧ 0 ≤ n ∧ Bd 1000 n ∧ Pen H p B ∧ B ≤ 800000 ∧ NewPD T H Q p (B + 72) fun g => (-n ≤ g.x ∧ g.x ≤ n) ∧ (-n ≤ g.y ∧ g.y ≤ n) ∧ (-(n * n) ≤ g.a ∧ g.a ≤ n * n)
theorem But.free {p : Addr} {H H' : Hp} (b : But p H H') {r : Addr} (h : H' r = none) (hp : H' p ≠ none) : H r = none := by
  cases e : H r with
  | none => rfl
  | some o =>
    have n : r ≠ p := fun z => hp (by rw [← z]; exact h)
    rw [b.st r o n e] at h
    cases h
theorem Pen.some {H : Hp} {p : Addr} {B : Int} (h : Pen H p B) : H p ≠ none := by
  obtain ⟨c, ns, st, r, e1, _⟩ := h.at_
  rw [e1]
  exact fun z => nomatch z
theorem ok_l_place (T : Tx K mg) : FnOk P w K mg base (L2.CX P w) 6 T.a_l_place T.d_l_place P_l_place (sp_l_place T) := by
  have G_l_whole : FnOk P w K mg base (L2.CX P w) 3 _ _ _ _ := ok_l_whole T
  have G_Place_init : FnOk P w K mg base (L2.CX P w) 4 _ _ _ _ := ok_Place_init T
  refine T.F_l_place.okX sc_l_place (fun vs H Q E h => ?_) (fun cdv A outer s H vs Q E hr h => ?_)
  · obtain ⟨p, n, B, rfl, _⟩ := h
    rfl
  · obtain ⟨p, n, B, rfl, h0, hb, hp, hB, k⟩ := h
    refine ⟨_, (pss_one (ps_ret (pe_make T.M_Place G_Place_init (hr.mono (by decide)) (by rfl) T.g_C_Place T.b_Place_init .nil passL (pa_cons (pe_call G_l_whole (hr.mono (by decide)) (by rfl) T.g_l_whole T.F_l_whole.kp T.b_l_whole .nil passL (pa_cons (pv 0) (pa_cons (pv 1) pa_nil))) (pa_cons (pe_call G_l_whole (hr.mono (by decide)) (by rfl) T.g_l_whole T.F_l_whole.kp T.b_l_whole .nil passL (pa_cons (pv 0) (pa_cons (pv 1) pa_nil))) (pa_cons (pe_call G_l_whole (hr.mono (by decide)) (by rfl) T.g_l_whole T.F_l_whole.kp T.b_l_whole .nil passL (pa_cons (pv 0) (pa_cons (pe_op op_mulW (pv 1) (pv 1)) pa_nil))) pa_nil)))))), ?_⟩
    refine ⟨_, rfl, _, rfl, p, n, B, rfl, h0, hp, by omega, fun x H1 hx b1 q1 => ?_⟩
    refine ⟨_, rfl, _, rfl, p, n, _, rfl, h0, q1, by omega, fun y H2 hy b2 q2 => ?_⟩
    refine ⟨_, rfl, _, rfl, _, rfl, _, _, rfl, rfl, big_mul (hb.mono (by decide)) (hb.mono (by decide)), p, _, _, rfl, Int.mul_nonneg h0 h0, q2, by omega, fun a H3 ha b3 q3 => ?_⟩
    refine mk_place T fun r H' s' n' h' => k r H' ⟨x, y, a⟩ ((b1.trans (b2.trans b3)).trans (But.of s')) ((b1.trans (b2.trans b3)).free n' q3.some) h' ⟨hx, hy, ha⟩ (q3.mono (by omega) s')
end
end AW

set_option linter.all false
set_option maxRecDepth 100000
set_option maxHeartbeats 8000000
namespace AW
open PySem PySem.Spec PyProof.Rows L2
section
variable {P : Program} {w : World} {K : PySem.W.Frag} {mg : Str → Option Value} {base : Heap}
theorem mk_facts (T : Tx K mg) {H H' : Hp} {p dx : Addr} {x y a : Int} (hp : H p = none) (hd : H dx = none) (s : ∀ b o, b ≠ p → upd (upd H dx (.own p)) p (.ins T.C_Place dx []) b = some o → H' b = some o)
    (e : H' p = some (.ins T.C_Place dx (flds x y a))) : Same H H' ∧ PlAt T H' p x y a :=
  ⟨fun b o h => s b o (ne_of_none h hp) (by rw [upd_ne (ne_of_none h hp), upd_ne (ne_of_none h hd)]; exact h), ⟨dx, e⟩⟩
/-- the letters -/
def Ltr (z : Str) : Prop := z = "e" ∨ z = "w" ∨ z = "n" ∨ z = "s"
def stG (z : Str) : G := if z = "e" then ⟨1, 0, 0⟩ else if z = "w" then ⟨-1, 0, 0⟩ else if z = "n" then ⟨0, 1, 0⟩ else ⟨0, -1, 0⟩
theorem stG_e : stG "e" = ⟨1, 0, 0⟩ := by decide +kernel
theorem stG_w : stG "w" = ⟨-1, 0, 0⟩ := by decide +kernel
theorem stG_n : stG "n" = ⟨0, 1, 0⟩ := by decide +kernel
theorem stG_s : stG "s" = ⟨0, -1, 0⟩ := by decide +kernel
def steps4 (r1 r2 r3 r4 : Addr) : List (Key × V) := [(.inr "e", .ref r1), (.inr "w", .ref r2), (.inr "n", .ref r3), (.inr "s", .ref r4)]
theorem st_e (r1 r2 r3 r4 : Addr) : valV (mergeK [] (steps4 r1 r2 r3 r4)) (.inr "e") = some (.ref r1) := by kernel_rfl
theorem st_w (r1 r2 r3 r4 : Addr) : valV (mergeK [] (steps4 r1 r2 r3 r4)) (.inr "w") = some (.ref r2) := by kernel_rfl
theorem st_n (r1 r2 r3 r4 : Addr) : valV (mergeK [] (steps4 r1 r2 r3 r4)) (.inr "n") = some (.ref r3) := by kernel_rfl
theorem st_s (r1 r2 r3 r4 : Addr) : valV (mergeK [] (steps4 r1 r2 r3 r4)) (.inr "s") = some (.ref r4) := by kernel_rfl
def sp_l_step (T : Tx K mg) : Sp := fun vs H Q E => ∃ z : Str, vs = [.str z] ∧ Ltr z ∧ NewP T H Q (stG z).x (stG z).y (stG z).a
theorem ok_l_step (T : Tx K mg) : FnOk P w K mg base (L2.CX P w) 6 T.a_l_step T.d_l_step P_l_step (sp_l_step T) := by
  have G_Place_init : FnOk P w K mg base (L2.CX P w) 4 _ _ _ _ := ok_Place_init T
  refine T.F_l_step.okX sc_l_step (fun vs H Q E h => ?_) (fun cdv A outer s H vs Q E hr h => ?_)
  · obtain ⟨z, rfl, _⟩ := h
    rfl
  · obtain ⟨z, rfl, hz, k⟩ := h
    have hu := hu_of hr
    refine ⟨_, (pss_one (ps_ret (pe_dget hu (pe_disp (pps_cons pe_str (pe_make T.M_Place G_Place_init (hr.mono (by decide)) (by rfl) T.g_C_Place T.b_Place_init .nil passL (pa_cons pe_int (pa_cons pe_int (pa_cons pe_int pa_nil)))) (pps_cons pe_str (pe_make T.M_Place G_Place_init (hr.mono (by decide)) (by rfl) T.g_C_Place T.b_Place_init .nil passL (pa_cons (pe_un un_neg pe_int) (pa_cons pe_int (pa_cons pe_int pa_nil)))) (pps_cons pe_str (pe_make T.M_Place G_Place_init (hr.mono (by decide)) (by rfl) T.g_C_Place T.b_Place_init .nil passL (pa_cons pe_int (pa_cons pe_int (pa_cons pe_int pa_nil)))) (pps_cons pe_str (pe_make T.M_Place G_Place_init (hr.mono (by decide)) (by rfl) T.g_C_Place T.b_Place_init .nil passL (pa_cons pe_int (pa_cons (pe_un un_neg pe_int) (pa_cons pe_int pa_nil)))) pps_nil)))) (by rfl) (by rfl) (fun z => by cases z) (by decide)) (pv 0) (fun _ _ => rfl)))), ?_⟩
    refine fun d nd => ?_
    have s0 : Same H (upd H d (.dK [])) := Same.laid nd
    have hd0 : upd H d (.dK []) d = some (.dK []) := upd_same
    have back : ∀ b, upd H d (.dK []) b = none → b ≠ d ∧ H b = none := fun b e => ⟨fun z => by (rw [z, upd_same] at e; cases e), s0.free e⟩
    generalize hH0 : upd H d (.dK []) = H0 at s0 hd0 back ⊢
    intro r1 _ n1 hd _
    refine ⟨_, _, _, _, _, rfl, upd_same, .int _, .int _, .int _, .inl ⟨_, _, _, rfl, rfl, rfl, fun H1 s e => ⟨rfl, ?_⟩⟩⟩
    obtain ⟨s1, p1⟩ := mk_facts T n1 hd s e
    refine ⟨_, rfl, ?_⟩
    intro r2 _ n2 hd _
    refine ⟨_, _, _, _, _, rfl, upd_same, .int _, .int _, .int _, .inl ⟨_, _, _, rfl, rfl, rfl, fun H2 s e => ⟨rfl, ?_⟩⟩⟩
    obtain ⟨s2, p2⟩ := mk_facts T n2 hd s e
    intro r3 _ n3 hd _
    refine ⟨_, _, _, _, _, rfl, upd_same, .int _, .int _, .int _, .inl ⟨_, _, _, rfl, rfl, rfl, fun H3 s e => ⟨rfl, ?_⟩⟩⟩
    obtain ⟨s3, p3⟩ := mk_facts T n3 hd s e
    refine ⟨_, rfl, ?_⟩
    intro r4 _ n4 hd _
    refine ⟨_, _, _, _, _, rfl, upd_same, .int _, .int _, .int _, .inl ⟨_, _, _, rfl, rfl, rfl, fun H4 s e => ⟨rfl, ?_⟩⟩⟩
    obtain ⟨s4, p4⟩ := mk_facts T n4 hd s e
    have e4 : H4 d = some (.dK []) := s4 _ _ (s3 _ _ (s2 _ _ (s1 _ _ hd0)))
    refine ⟨e4, steps4 r1 r2 r3 r4, rfl, (by show 4 ≤ 15; decide), _, rfl, ?_⟩
    have sF : Same H (upd H4 d (.dK (mergeK [] (steps4 r1 r2 r3 r4)))) := fun b o e => by
      have nb : b ≠ d := ne_of_none e nd
      rw [upd_ne nb]
      exact s4 _ _ (s3 _ _ (s2 _ _ (s1 _ _ (s0 _ _ e))))
    have fin : ∀ (r : Addr) (x y a : Int), H0 r = none → PlAt T H4 r x y a → x = (stG z).x → y = (stG z).y → a = (stG z).a → Q (.ref r) (upd H4 d (.dK (mergeK [] (steps4 r1 r2 r3 r4)))) := fun r x y a hn hp e1 e2 e3 => by
      obtain ⟨nb, hn'⟩ := back r hn
      subst e1; subst e2; subst e3
      obtain ⟨dx, hp⟩ := hp
      exact k r _ sF hn' ⟨dx, by rw [upd_ne nb]; exact hp⟩
    rcases hz with rfl | rfl | rfl | rfl
    · exact ⟨d, _, rfl, by have h := DGet.k (k := Sum.inr "e") (H := upd H4 d (.dK (mergeK [] (steps4 r1 r2 r3 r4)))) upd_same; rw [st_e] at h; exact h, fin r1 1 0 0 n1 (((p1.mono s2).mono s3).mono s4) (by rw [stG_e]) (by rw [stG_e]) (by rw [stG_e])⟩
    · exact ⟨d, _, rfl, by have h := DGet.k (k := Sum.inr "w") (H := upd H4 d (.dK (mergeK [] (steps4 r1 r2 r3 r4)))) upd_same; rw [st_w] at h; exact h, fin r2 (-1) 0 0 (s1.free n2) ((p2.mono s3).mono s4) (by rw [stG_w]) (by rw [stG_w]) (by rw [stG_w])⟩
    · exact ⟨d, _, rfl, by have h := DGet.k (k := Sum.inr "n") (H := upd H4 d (.dK (mergeK [] (steps4 r1 r2 r3 r4)))) upd_same; rw [st_n] at h; exact h, fin r3 0 1 0 (s1.free (s2.free n3)) (p3.mono s4) (by rw [stG_n]) (by rw [stG_n]) (by rw [stG_n])⟩
    · exact ⟨d, _, rfl, by have h := DGet.k (k := Sum.inr "s") (H := upd H4 d (.dK (mergeK [] (steps4 r1 r2 r3 r4)))) upd_same; rw [st_s] at h; exact h, fin r4 0 (-1) 0 (s1.free (s2.free (s3.free n4))) p4 (by rw [stG_s]) (by rw [stG_s]) (by rw [stG_s])⟩
end
end AW

set_option linter.all false
set_option maxRecDepth 100000
set_option maxHeartbeats 8000000
namespace AW
open PySem PySem.Spec PyProof.Rows L2
section
variable {P : Program} {w : World} {K : PySem.W.Frag} {mg : Str → Option Value} {base : Heap}
def gV (g : G) : List V := [.int g.x, .int g.y, .int g.a]
def sp_l_swept (T : Tx K mg) : Sp := fun vs H Q E => ∃ (l : Addr) (zs : List Str), vs = [.ref l] ∧ H l = some (.lst (zs.map V.str)) ∧ (∀ z ∈ zs, Ltr z) ∧ ∀ t H', Same H H' → H' t = some (.tup (gV (G.prod (zs.map stG)))) → Q (.ref t) H'
theorem map_get {α β : Type} {f : α → β} {l : List α} {i : Nat} {y : β} (h : (l.map f)[i]? = some y) : ∃ x, l[i]? = some x ∧ f x = y := by
  rw [List.getElem?_map] at h
  cases e : l[i]? with
  | none => rw [e] at h; cases h
  | some x => rw [e] at h; exact ⟨x, rfl, Option.some.inj h⟩
theorem ok_l_swept (T : Tx K mg) : FnOk P w K mg base (L2.CX P w) 1 T.a_l_swept T.d_l_swept P_l_swept (sp_l_swept T) := by
  refine T.F_l_swept.okX sc_l_swept (fun vs H Q E h => ?_) (fun cdv A outer s H vs Q E hr h => ?_)
  · obtain ⟨l, zs, rfl, _⟩ := h
    rfl
  · obtain ⟨l, zs, rfl, hl, hz, k⟩ := h
    refine ⟨_, (pss_cons (ps_asg (pe_tup (pa_cons pe_int (pa_cons pe_int (pa_cons pe_int pa_nil)))) (pg_tup rfl (pgs_cons (pg_name (i := 1) sc_l_swept.nd rfl (.inl rfl)) (pgs_cons (pg_name (i := 2) sc_l_swept.nd rfl (.inl rfl)) (pgs_cons (pg_name (i := 3) sc_l_swept.nd rfl (.inl rfl)) pgs_nil)))))
 (pss_cons (ps_for (passes_of rfl) rfl (pi_list (pv 0)) (pg_name (i := 4) sc_l_swept.nd rfl (.inl rfl))
 (pss_one (ps_if (pt_cmpR op_in_str (pv 4) pe_str (by rfl))
 (pss_one (ps_set (i := 1) sc_l_swept.nd rfl (.inl rfl) (pe_op op_add (pv 1) (pe_ifExp (pt_cmpR op_eq (pv 4) pe_str (nomark _)) pe_int (pe_un un_neg pe_int)))))
 (pss_one (ps_par (i := 2) (j := 3) (by rfl) sc_l_swept.nd rfl rfl (by decide) rfl rfl (pa_cons (pe_op op_add (pv 2) (pe_ifExp (pt_cmpR op_eq (pv 4) pe_str (nomark _)) pe_int (pe_un un_neg pe_int))) (pa_cons (pe_op op_add (pv 3) (pe_ifExp (pt_cmpR op_eq (pv 4) pe_str (nomark _)) (pv 1) (pe_un un_neg (pv 1)))) pa_nil)) (by rfl))))))
 (pss_one (ps_ret (pe_tup (pa_cons (pv 1) (pa_cons (pv 2) (pa_cons (pv 3) pa_nil)))))))), ?_⟩
    refine ⟨(by show 3 ≤ sizeLine; decide), fun t0 n0 => ⟨t0, _, rfl, SqT.of upd_same, rfl, _, _, rfl, _, _, rfl, _, _, rfl, rfl, ?_⟩⟩
    have s0 : Same H (upd H t0 (.tup [.int 0, .int 0, .int 0])) := Same.laid n0
    refine ⟨_, rfl, l, rfl, ⟨_, SqL.of (s0 _ _ hl)⟩, for_list (K := K) (a := l) (xs := zs.map V.str) (fun i σ H1 => Same H H1 ∧ ∃ v, σ = [some (.ref l), some (.int (G.prod ((zs.take i).map stG)).x), some (.int (G.prod ((zs.take i).map stG)).y), some (.int (G.prod ((zs.take i).map stG)).a), v])
      ⟨s0, none, rfl⟩ (fun i σ H1 _ ⟨e, _⟩ => SqL.of (e _ _ hl)) ?_ ?_⟩
    · rintro i y σ H1 hi ⟨s1, v, rfl⟩
      obtain ⟨z, hz1, rfl⟩ := map_get hi
      have hL := hz z (List.mem_of_getElem? hz1)
      have step : (zs.take (i + 1)).map stG = (zs.take i).map stG ++ [stG z] := by rw [take_snoc hz1, List.map_append]; rfl
      generalize hg : G.prod ((zs.take i).map stG) = g
      have step2 : G.prod ((zs.take (i + 1)).map stG) = g.mul (stG z) := by rw [step, G.prod_snoc, hg]
      have oE : ∀ z : Str, Ltr z → (!(Builtin.Str.occurrences ("ew" : Str) z 0 ("ew" : Str).length 1).isEmpty) = decide (z = "e" ∨ z = "w") := fun z h => by
        rcases h with rfl | rfl | rfl | rfl <;> decide +kernel
      refine ⟨_, rfl, _, _, rfl, rfl, _, rfl, ?_⟩
      rcases hL with rfl | rfl | rfl | rfl
      · refine ifT (by decide +kernel) ?_
        refine ⟨_, rfl, _, rfl, rfl, _, rfl, iteT ⟨_, _, rfl, rfl, s1, some (.str "e"), ?_⟩⟩
        rw [step2, stG_e]
        show [some (V.ref l), some (V.int (g.x + 1)), some (V.int g.y), some (V.int g.a), some (V.str "e")] = _
        simp [G.mul]
      · refine ifT (by decide +kernel) ?_
        refine ⟨_, rfl, _, rfl, rfl, _, rfl, iteF ⟨_, rfl, _, _, rfl, rfl, s1, some (.str "w"), ?_⟩⟩
        rw [step2, stG_w]
        show [some (V.ref l), some (V.int (g.x + -1)), some (V.int g.y), some (V.int g.a), some (V.str "w")] = _
        simp [G.mul]
      · refine ifN (by decide +kernel) ?_
        refine ⟨_, rfl, _, rfl, rfl, _, rfl, iteT ⟨_, _, rfl, rfl, _, rfl, _, rfl, rfl, _, rfl, iteT ⟨_, rfl, _, _, rfl, rfl, _, _, rfl, s1, some (.str "n"), ?_⟩⟩⟩
        rw [step2, stG_n]
        show [some (V.ref l), some (V.int g.x), some (V.int (g.y + 1)), some (V.int (g.a + g.x)), some (V.str "n")] = _
        simp [G.mul]
      · refine ifN (by decide +kernel) ?_
        refine ⟨_, rfl, _, rfl, rfl, _, rfl, iteF ⟨_, rfl, _, _, rfl, rfl, _, rfl, _, rfl, rfl, _, rfl, iteF ⟨_, rfl, _, rfl, _, _, rfl, rfl, _, _, rfl, s1, some (.str "s"), ?_⟩⟩⟩
        rw [step2, stG_s]
        show [some (V.ref l), some (V.int g.x), some (V.int (g.y + -1)), some (V.int (g.a + -g.x)), some (V.str "s")] = _
        simp [G.mul]
    · rintro σ H1 ⟨s1, v, rfl⟩
      refine ⟨_, rfl, _, rfl, _, rfl, (by show 3 ≤ sizeLine; decide), fun t nt => ?_⟩
      refine k t _ (Same.after s1 nt) ?_
      rw [List.length_map, List.take_length]
      exact upd_same
end
end AW

set_option linter.all false
set_option maxRecDepth 100000
set_option maxHeartbeats 8000000
namespace AW
open PySem PySem.Spec PyProof.Rows L2 LamX
section
variable {P : Program} {w : World} {K : PySem.W.Frag} {mg : Str → Option Value} {base : Heap}
/-- the error that came, told: a new tuple -/
def Told (H : Hp) (Q : VK) (x : Str) (v : V) : Prop := ∀ t H', Same H H' → H' t = some (.tup [.str x, v]) → Q (.ref t) H'
/-- what refused makes of the lambda's reading tl: it raises, by number or by place, with v -/
def TTref (T : Tx K mg) : (XK → Hp → VK → Prop) → Hp → VK → Prop := fun tl H Q =>
  tl (fun cls d H' => (cls = .ref T.C_BadNumber ∧ ∃ dd v, d = some dd ∧ H' dd = some (.xd [("value", v)]) ∧ Told H' Q "number" v) ∨ (cls = .ref T.C_BadPlace ∧ ∃ dd v, d = some dd ∧ H' dd = some (.xd [("value", v)]) ∧ Told H' Q "place" v)) H (fun _ H' => Q .non H')
/-- the frame has its slots -/
theorem takes_len {X : Cx} {W : WX} (tk : Takes X W) : Takes X (fun cls d σ H => σ.length = X.N.length → W cls d σ H) := fun u s' ⟨a, B, sI, pins, σ, H, cls, d, e, I, nb, up, sky, na, os, ag, w⟩ =>
  tk u s' ⟨a, B, sI, pins, σ, H, cls, d, e, I, nb, up, sky, na, os, ag, w I.len⟩
theorem refused_gives (T : Tx K mg) {X : Cx} (hK : X.K = K) (hmg : X.mg = mg) {cdg : Value} {q : Str} :
    GivesTo X N_l_refused "_law_refused" (defScope s_l_refused) T.a_l_refused cdg (defBody s_l_refused) "_law_ask" q (TTref T) := by
  subst hK
  subst hmg
  intro f c' s H Q tl act hc h
  refine ⟨_, pss_cons (ps_try_manyA (X := (cxOf C8.CX0 X.prog X.w X.K X.mg X.base N_l_refused "_law_refused" (defScope s_l_refused) T.a_l_refused cdg X.A X.stack s H C8.E0).nox)
      (tb := fun W D σ H => ∃ Ech : XK, (∀ cls d σ' H', Ech cls d H' → σ'.length = 2 → W cls d σ' H') ∧ σ[0]? = some (some (.ref f)) ∧ H c' = some (CodeO c' q) ∧ tl Ech H (fun _ H' => D.nx σ H'))
      (l := [(.ref T.C_BadNumber, 1, fun a cls d => tRet (tTup (tCons (tC (.str "number")) (tCons (tXf a cls d T.C_BadNumber "value" (tVar 1)) tNil)))),
        (.ref T.C_BadPlace, 1, fun a cls d => tRet (tTup (tCons (tC (.str "place")) (tCons (tXf a cls d T.C_BadPlace "value" (tVar 1)) tNil)))),
        (.ref T.C_WalkError, 1, fun a cls d => tRet (tTup (tCons (tC (.str "other")) (tCons (tC (.int 0)) tNil))))])
      rfl rfl sc_l_refused.nd L2.takes0 (fun W pn xe tk _ => ?_)
      (.cons rfl rfl ⟨rfl, by decide, .inl T.g_C_BadNumber⟩ (fun a oe cls d pn hz hf => pss_one (ps_ret (pe_tup (pa_cons pe_str (pa_cons (pe_xf T.Y_BadNumber T.na_BadNumber_value hz hf (pv 1)) pa_nil)))))
        (.cons rfl rfl ⟨rfl, by decide, .inl T.g_C_BadPlace⟩ (fun a oe cls d pn hz hf => pss_one (ps_ret (pe_tup (pa_cons pe_str (pa_cons (pe_xf T.Y_BadPlace T.na_BadPlace_value hz hf (pv 1)) pa_nil)))))
        (.cons rfl rfl ⟨rfl, by decide, .inl T.g_C_WalkError⟩ (fun a oe cls d pn hz hf => pss_one (ps_ret (pe_tup (pa_cons pe_str (pa_cons pe_int pa_nil))))) .nil))))
    (pss_one (ps_ret pe_non)), ?_⟩
  · refine ⟨fun pins s' σ H' D I h' => ?_⟩
    obtain ⟨Ech, hW, h1, h2, h3⟩ := h'
    have hp := fun p1 p2 => act _ pn xe Ech p1 p2 (takes_len tk) hW
    exact (pss_one (ps_expr (hp _ _))).run pins s' σ H' D I ⟨h1, h2, h3⟩
  · have get1 : ∀ (σ' : L2.St) (a : Addr), σ'.length = 2 → (σ'.set 1 (some (V.ref a)))[1]? = some (some (V.ref a)) := fun σ' a hl => by
      rw [List.getElem?_set_self (by omega)]
    refine ⟨fun cls d H' => (cls = .ref T.C_BadNumber ∧ ∃ dd v, d = some dd ∧ H' dd = some (.xd [("value", v)]) ∧ Told H' Q "number" v) ∨ (cls = .ref T.C_BadPlace ∧ ∃ dd v, d = some dd ∧ H' dd = some (.xd [("value", v)]) ∧ Told H' Q "place" v), ?_, rfl, hc, h⟩
    rintro cls d σ' H' (⟨rfl, dd, v, rfl, hd, k⟩ | ⟨rfl, dd, v, rfl, hd, k⟩) hl
    · refine ⟨true, T.em_BadNumber_BadNumber, fun _ a na => ?_, fun z => nomatch z⟩
      refine ⟨_, get1 σ' a hl, rfl, rfl, dd, _, v, rfl, hd, by simp [List.lookup], (by show 2 ≤ sizeLine; decide), fun t nt => ?_⟩
      exact k t _ (Same.laid nt) upd_same
    · refine ⟨false, T.em_BadPlace_BadNumber, (fun z => nomatch z), fun _ => ⟨true, T.em_BadPlace_BadPlace, fun _ a na => ?_, fun z => nomatch z⟩⟩
      refine ⟨_, get1 σ' a hl, rfl, rfl, dd, _, v, rfl, hd, by simp [List.lookup], (by show 2 ≤ sizeLine; decide), fun t nt => ?_⟩
      exact k t _ (Same.laid nt) upd_same
end
end AW

set_option linter.all false
set_option maxRecDepth 100000
set_option maxHeartbeats 8000000
namespace AW
open PySem PySem.Spec PyProof.Rows L2
/-! ### the same, or equal and flat -/
def DSame : Eqv := fun x y _ => ∃ a, x = .ref a ∧ y = .ref a
theorem mon_same : Mon DSame := fun _ _ _ _ _ d => d
theorem eqG_same {X : Cx} : EqG X 0 DSame := by
  intro A pins s σ H x y u v sb I rx ry d
  obtain ⟨a, rfl, rfl⟩ := d
  cases rx
  cases ry
  exact SeqAt.EqAt.same (A := A) (s := s) (.ref a) X.prog X.w X.xe _ ⟨rfl, H, I, Ext.rfl'⟩
def DOdd : Eqv := fun x y H => DFlat x y H ∨ DSame x y H
theorem rcG_odd {X : Cx} : RcG X 1 (DTup X.K DOdd) := rcG_tup (mon_flat.or mon_same) (eqG_flat.or eqG_same)
section
variable {P : Program} {w : World} {K : PySem.W.Frag} {mg : Str → Option Value} {base : Heap}
/-- the odd values, away from the pen -/
inductive Odd (p : Addr) (H : Hp) : V → Prop where
  | non : Odd p H .non
  | bl (b : Bool) : Odd p H (.bl b)
  | str (z : Str) : Odd p H (.str z)
  | lst {a : Addr} {xs : List V} (e : H a = some (.lst xs)) (n : a ≠ p) : Odd p H (.ref a)
  | tup {a : Addr} {xs : List V} (e : H a = some (.tup xs)) (n : a ≠ p) : Odd p H (.ref a)
  | dct {a : Addr} {xs : List (Key × V)} (e : H a = some (.dK xs)) (n : a ≠ p) : Odd p H (.ref a)
/-- all but the pen and the tables of code stay -/
def Bx (p : Addr) (H H' : Hp) : Prop := ∀ b o, b ≠ p → H b = some o → (∀ ps, o ≠ .tbl ps) → H' b = some o
theorem Bx.refl {p : Addr} (H : Hp) : Bx p H H := fun _ _ _ h _ => h
theorem Bx.trans {p : Addr} {H H1 H2 : Hp} (a : Bx p H H1) (b : Bx p H1 H2) : Bx p H H2 := fun c o n h t => b c o n (a c o n h t) t
theorem Bx.of {p : Addr} {H H' : Hp} (s : Same H H') : Bx p H H' := fun b o _ h _ => s b o h
theorem Bx.but {p : Addr} {H H' : Hp} (s : But p H H') : Bx p H H' := fun b o n h _ => s.st b o n h
theorem Bx.ext {p : Addr} {H H' : Hp} (s : LamX.ExtN H H') : Bx p H H' := fun b o _ h t => s b o h t
theorem Odd.mono {p : Addr} {H H' : Hp} {v : V} (s : Bx p H H') (h : Odd p H v) : Odd p H' v := by
  cases h with
  | non => exact .non
  | bl b => exact .bl b
  | str z => exact .str z
  | lst e n => exact .lst (s _ _ n e (fun _ z => nomatch z)) n
  | tup e n => exact .tup (s _ _ n e (fun _ z => nomatch z)) n
  | dct e n => exact .dct (s _ _ n e (fun _ z => nomatch z)) n
theorem Odd.nop {T : Tx K mg} {p : Addr} {H : Hp} {v : V} (h : Odd p H v) : NoP T H v := by
  cases h with
  | non => exact ⟨_, .base .non, .inr (.inl rfl), rfl⟩
  | bl b => exact ⟨_, .base (.bl b), .inr (.inr (.inl rfl)), rfl⟩
  | str z => exact ⟨_, .base (.str z), .inr (.inr (.inr (.inr (.inl rfl)))), rfl⟩
  | lst e n => exact ⟨_, .base (.lst e), .inr (.inr (.inr (.inr (.inr (.inl rfl))))), rfl⟩
  | tup e n => exact ⟨_, .base (.tup e), .inr (.inr (.inr (.inr (.inr (.inr (.inl rfl)))))), rfl⟩
  | dct e n => exact ⟨_, .base (.dK e), .inr (.inr (.inr (.inr (.inr (.inr (.inr rfl)))))), rfl⟩
theorem Odd.int {p : Addr} {H : Hp} {v : V} (h : Odd p H v) : intV v = false := by cases h <;> rfl
theorem Odd.eq {p : Addr} {H H' : Hp} {v : V} (h : Odd p H v) : DOdd v v H' := by
  cases h with
  | non => exact .inl ⟨rfl, rfl, rfl⟩
  | bl b => exact .inl ⟨rfl, rfl, by cases b <;> rfl⟩
  | str z => exact .inl ⟨rfl, rfl, by simp [eqV]⟩
  | lst e n => exact .inr ⟨_, rfl, rfl⟩
  | tup e n => exact .inr ⟨_, rfl, rfl⟩
  | dct e n => exact .inr ⟨_, rfl, rfl⟩
def sp_l_same (T : Tx K mg) : Sp := fun vs H Q E => ∃ (p t1 t2 : Addr) (x : Str) (v : V), vs = [.ref t1, .ref t2] ∧ Odd p H v ∧ H t1 = some (.tup [.str x, v]) ∧ H t2 = some (.tup [.str x, v]) ∧ ∀ H', Same H H' → Q (.bl true) H'
theorem ok_l_same (T : Tx K mg) : FnOk P w K mg base (L2.CX P w) 3 T.a_l_same T.d_l_same P_l_same (sp_l_same T) := by
  refine T.F_l_same.okX sc_l_same (fun vs H Q E h => ?_) (fun cdv A outer s H vs Q E hr h => ?_)
  · obtain ⟨p, t1, t2, x, v, rfl, _⟩ := h
    rfl
  · obtain ⟨p, t1, t2, x, v, rfl, ho, h1, h2, k⟩ := h
    refine ⟨_, (pss_one (ps_ret (pe_and (pe_cmpR (op_eqG rcG_odd (hr.mono (by decide))) (pv 0) (pv 1) (nomark _)) (pe_and (pe_cmp (pc_notN (pv 0)) rfl) (pe_one (pe_cmpR op_eq (pe_callB call_isi (by rfl) T.n_isinstance (by decide +kernel) (pa_cons (pe_ix ix_tup (pv 0) pe_int (fun _ _ => rfl)) (pa_cons (pe_bltn (v := .ty "bool") (by rfl) T.n_bool (by decide +kernel) rfl) pa_nil))) (pe_callB call_isi (by rfl) T.n_isinstance (by decide +kernel) (pa_cons (pe_ix ix_tup (pv 1) pe_int (fun _ _ => rfl)) (pa_cons (pe_bltn (v := .ty "bool") (by rfl) T.n_bool (by decide +kernel) rfl) pa_nil))) (nomark _))))))), ?_⟩
    refine ⟨_, rfl, _, rfl, ⟨t1, t2, _, _, rfl, rfl, SqT.of h1, SqT.of h2, Prs.cons (.inl ⟨rfl, rfl, by simp [eqV]⟩) (Prs.cons ho.eq Prs.nil)⟩, fun H' e => ⟨_, rfl, iteT ?_⟩⟩
    have e1 := e _ _ h1
    have e2 := e _ _ h2
    obtain ⟨t, ty, ht, _⟩ := (ho.mono (p := p) (Bx.of (fun b o h => e b o h))).nop (T := T)
    refine ⟨_, rfl, _, rfl, iteT ?_⟩
    refine ⟨_, rfl, t1, _, _, _, rfl, rfl, SqT.of e1, rfl, _, _, _, _, _, rfl, .ty _, ty, kit_bool T ht, ?_⟩
    refine ⟨_, rfl, t2, _, _, _, rfl, rfl, SqT.of e2, rfl, _, _, _, _, _, rfl, .ty _, ty, kit_bool T ht, ?_⟩
    refine ⟨rfl, ?_⟩
    have e3 : decide (V.bl (isB t) = V.bl (isB t)) = true := decide_eq_true rfl
    have k' := k H' (fun b o h => e b o h)
    rw [← e3] at k'
    exact k'
end
end AW

set_option maxHeartbeats 4000000
namespace AW
/-! ### the mathematics of powers -/
def tri (n : Int) : Int := (n * (n - 1)).fdiv 2
theorem tri2 (n : Int) : 2 * tri n = n * (n - 1) := by
  unfold tri
  rw [Int.fdiv_eq_ediv_of_nonneg _ (by decide)]
  have h : (n * (n - 1)) % 2 = 0 := by
    rcases Int.emod_two_eq n with h | h
    · obtain ⟨k, rfl⟩ : ∃ k, n = 2 * k := ⟨n / 2, by omega⟩
      rw [Int.mul_assoc, Int.mul_emod_right]
    · obtain ⟨k, rfl⟩ : ∃ k, n = 2 * k + 1 := ⟨n / 2, by omega⟩
      have e : (2 * k + 1) * (2 * k + 1 - 1) = 2 * ((2 * k + 1) * k) := by grind
      rw [e, Int.mul_emod_right]
  omega
theorem G.pw_def (g : G) (n : Int) : g.pw n = ⟨n * g.x, n * g.y, n * g.a + g.x * g.y * tri n⟩ := rfl
theorem two_inj {a b : Int} (h : 2 * a = 2 * b) : a = b := by omega
theorem G.pw_add (g : G) (m n : Int) : (g.pw m).mul (g.pw n) = g.pw (m + n) := by
  have h1 := tri2 m
  have h2 := tri2 n
  have h3 := tri2 (m + n)
  simp only [G.pw_def, G.mul]
  refine G.ext ?_ ?_ ?_
  · show m * g.x + n * g.x = (m + n) * g.x; grind
  · show m * g.y + n * g.y = (m + n) * g.y; grind
  · refine two_inj ?_
    show 2 * (m * g.a + g.x * g.y * tri m + (n * g.a + g.x * g.y * tri n) + m * g.x * (n * g.y)) = 2 * ((m + n) * g.a + g.x * g.y * tri (m + n))
    generalize tri m = u at *
    generalize tri n = v at *
    generalize tri (m + n) = w at *
    grind
theorem G.pw_pw (g : G) (m n : Int) : (g.pw m).pw n = g.pw (m * n) := by
  have h1 := tri2 m
  have h2 := tri2 n
  have h3 := tri2 (m * n)
  simp only [G.pw_def]
  refine G.ext ?_ ?_ ?_
  · show n * (m * g.x) = m * n * g.x; grind
  · show n * (m * g.y) = m * n * g.y; grind
  · refine two_inj ?_
    show 2 * (n * (m * g.a + g.x * g.y * tri m) + m * g.x * (m * g.y) * tri n) = 2 * (m * n * g.a + g.x * g.y * tri (m * n))
    generalize tri m = u at *
    generalize tri n = v at *
    generalize tri (m * n) = w at *
    grind
theorem G.pw_neg (g : G) (n : Int) : g.pw (-n) = (g.pw n).inv := by
  have h1 := tri2 n
  have h2 := tri2 (-n)
  simp only [G.pw_def, G.inv]
  refine G.ext ?_ ?_ ?_
  · show -n * g.x = -(n * g.x); grind
  · show -n * g.y = -(n * g.y); grind
  · refine two_inj ?_
    show 2 * (-n * g.a + g.x * g.y * tri (-n)) = 2 * (n * g.x * (n * g.y) - (n * g.a + g.x * g.y * tri n))
    generalize tri n = u at *
    generalize tri (-n) = v at *
    grind
theorem G.pw_zero (g : G) : g.pw 0 = G.one := by
  refine G.ext ?_ ?_ ?_
  · show 0 * g.x = 0; grind
  · show 0 * g.y = 0; grind
  · show 0 * g.a + g.x * g.y * tri 0 = 0
    have h : tri 0 = 0 := by decide
    rw [h]; grind
theorem G.pw_one (g : G) : g.pw 1 = g := by
  refine G.ext ?_ ?_ ?_
  · show 1 * g.x = g.x; grind
  · show 1 * g.y = g.y; grind
  · show 1 * g.a + g.x * g.y * tri 1 = g.a
    have h : tri 1 = 0 := by decide
    rw [h]; grind
theorem G.prod_rep (g : G) : ∀ n : Nat, G.prod (List.replicate n g) = g.pw n
  | 0 => (G.pw_zero g).symm
  | n + 1 => by
    rw [List.replicate_succ', G.prod_snoc, G.prod_rep g n]
    have h := G.pw_add g n 1
    rw [G.pw_one] at h
    rw [h]
    rfl
theorem G.mul_assoc (g h k : G) : (g.mul h).mul k = g.mul (h.mul k) := by
  refine G.ext ?_ ?_ ?_
  · show g.x + h.x + k.x = g.x + (h.x + k.x); omega
  · show g.y + h.y + k.y = g.y + (h.y + k.y); omega
  · show g.a + h.a + g.x * h.y + k.a + (g.x + h.x) * k.y = g.a + (h.a + k.a + h.x * k.y) + g.x * (h.y + k.y); grind
theorem G.mul_inv (g : G) : g.mul g.inv = G.one := by
  refine G.ext ?_ ?_ ?_
  · show g.x + -g.x = 0; omega
  · show g.y + -g.y = 0; omega
  · show g.a + (g.x * g.y - g.a) + g.x * -g.y = 0; grind
theorem G.inv_mul (g : G) : g.inv.mul g = G.one := by
  refine G.ext ?_ ?_ ?_
  · show -g.x + g.x = 0; omega
  · show -g.y + g.y = 0; omega
  · show (g.x * g.y - g.a) + g.a + -g.x * g.y = 0; grind
theorem G.inv_of_mul (g h : G) : (g.mul h).inv = h.inv.mul g.inv := by
  refine G.ext ?_ ?_ ?_
  · show -(g.x + h.x) = -h.x + -g.x; omega
  · show -(g.y + h.y) = -h.y + -g.y; omega
  · show (g.x + h.x) * (g.y + h.y) - (g.a + h.a + g.x * h.y) = h.x * h.y - h.a + (g.x * g.y - g.a) + -h.x * -g.y; grind
theorem G.twist_mul (g h : G) : g.mul h = (h.mul g).lift (g.x * h.y - h.x * g.y) := by
  refine G.ext ?_ ?_ ?_
  · show g.x + h.x = h.x + g.x; omega
  · show g.y + h.y = h.y + g.y; omega
  · show g.a + h.a + g.x * h.y = h.a + g.a + h.x * g.y + (g.x * h.y - h.x * g.y); omega
theorem G.lift_mul (g : G) (n : Int) : g.lift n = g.mul ⟨0, 0, n⟩ := by
  refine G.ext ?_ ?_ ?_
  · show g.x = g.x + 0; omega
  · show g.y = g.y + 0; omega
  · show g.a + n = g.a + n + g.x * 0; grind
end AW

set_option linter.all false
set_option maxRecDepth 100000
set_option maxHeartbeats 8000000
namespace AW
open PySem PySem.Spec PyProof.Rows L2
section
variable {P : Program} {w : World} {K : PySem.W.Frag} {mg : Str → Option Value} {base : Heap}
/-! ### the operators on places, by their triples -/
theorem eq_g (T : Tx K mg) {H : Hp} {p q : Addr} {g h : G} {Q : VK} {E : XK} {f : Bool → Bool} (hp : PG' T H p g) (hq : PG' T H q h) (k : Q (.bl (f (decide (g = h)))) H) : rEqO K T.C_Place (sp_Place_eq T) E f (.ref p) (.ref q) H Q := by
  obtain ⟨dx, ep⟩ := id hp
  refine ⟨p, dx, _, _, rfl, ep, hq.ty, notFirst_of T (.inl rfl), p, .ref q, _, _, _, rfl, hp, .inl ⟨q, _, _, _, rfl, hq, _, rfl, ?_⟩⟩
  have e : decide (g.x = h.x ∧ g.y = h.y ∧ g.a = h.a) = decide (g = h) := by
    by_cases e : g = h
    · subst e; simp
    · rw [decide_eq_false e]
      exact decide_eq_false fun ⟨h1, h2, h3⟩ => e (G.ext h1 h2 h3)
  rw [e]
  exact k
theorem eq_o (T : Tx K mg) {H : Hp} {p : Addr} {v : V} {g : G} {Q : VK} {E : XK} {f : Bool → Bool} (hp : PG' T H p g) (hv : NoP T H v) (k : Q (.bl (f false)) H) : rEqO K T.C_Place (sp_Place_eq T) E f (.ref p) v H Q := by
  obtain ⟨dx, ep⟩ := id hp
  obtain ⟨t, ty, ht, e⟩ := id hv
  exact ⟨p, dx, _, _, rfl, ep, ty, notFirst_of T ht, p, v, _, _, _, rfl, hp, .inr ⟨hv, _, rfl, k⟩⟩
theorem mul_g (T : Tx K mg) {H : Hp} {p q : Addr} {g h : G} {Q : VK} {E : XK} (hp : PG' T H p g) (hq : PG' T H q h) (b1 : Bd BIG g.x) (b2 : Bd BIG h.y) (k : NewP T H Q (g.mul h).x (g.mul h).y (g.mul h).a) :
    rOpO K T.C_Place .Mult (sp_Place_mul T) E (.ref p) (.ref q) H Q := by
  obtain ⟨dx, ep⟩ := id hp
  exact ⟨p, dx, _, _, rfl, ep, hq.ty, rt_of T (.inl rfl), p, .ref q, _, _, _, rfl, hp, .inl ⟨q, _, _, _, rfl, hq, b1, b2, k⟩⟩
theorem inv_g (T : Tx K mg) {H : Hp} {p : Addr} {g : G} {Q : VK} {E : XK} (hp : PG' T H p g) (b1 : Bd BIG g.x) (b2 : Bd BIG g.y) (k : NewP T H Q g.inv.x g.inv.y g.inv.a) :
    rUnO T.C_Place (sp_Place_invert T) E (.ref p) H Q := by
  obtain ⟨dx, ep⟩ := id hp
  exact ⟨p, dx, _, rfl, ep, p, _, _, _, rfl, hp, b1, b2, k⟩
/-- o.power(n): what the method's reading asks -/
theorem pow_g (T : Tx K mg) {H : Hp} {p : Addr} {g : G} {n : Int} {Q : VK} {E : XK} (hp : PG' T H p g) (b1 : Bd 100000 g.x) (b2 : Bd 100000 g.y) (b3 : Bd BIG g.a) (b4 : Bd 100000 n) (k : NewP T H Q (g.pw n).x (g.pw n).y (g.pw n).a) :
    sp_Place_power T (.ref p :: ([V.int n] ++ [])) H Q E := ⟨p, .int n, _, _, _, rfl, hp, .int n, .inl ⟨n, rfl, b1, b2, b3, b4, k⟩⟩
def Bg (k : Nat) (g : G) : Prop := Bd k g.x ∧ Bd k g.y ∧ Bd k g.a
theorem Bg.mono {k m : Nat} {g : G} (h : Bg k g) (l : k ≤ m) : Bg m g := ⟨h.1.mono l, h.2.1.mono l, h.2.2.mono l⟩
theorem tri_bd {k : Nat} {n : Int} (h : Bd k n) (hk : 1 ≤ k) : Bd (2 * k + 1) (tri n) := by
  have h1 : Bd (k + 1) (n - 1) := h.sub (Bd.one hk)
  have h2 : Bd (k + (k + 1)) (n * (n - 1)) := h.mul h1
  have e := tri2 n
  unfold Bd at *
  have e2 : k + (k + 1) = 2 * k + 1 := by omega
  rw [e2] at h2
  rw [← e] at h2
  omega
theorem pw_bg {k m : Nat} {g : G} {n : Int} (h : Bg k g) (hn : Bd m n) (hm : 1 ≤ m) : Bg (2 * k + 2 * m + 2) (g.pw n) := by
  obtain ⟨h1, h2, h3⟩ := h
  refine ⟨(hn.mul h1).mono (by omega), (hn.mul h2).mono (by omega), ?_⟩
  have a1 := (hn.mul h3).mono (show m + k ≤ 2 * k + 2 * m + 1 by omega)
  have a2 := ((h1.mul h2).mul (tri_bd hn hm)).mono (show k + k + (2 * m + 1) ≤ 2 * k + 2 * m + 1 by omega)
  exact (a1.add a2).mono (by omega)
theorem inv_bg {k : Nat} {g : G} (h : Bg k g) : Bg (2 * k + 1) g.inv := by
  obtain ⟨h1, h2, h3⟩ := h
  refine ⟨h1.neg.mono (by omega), h2.neg.mono (by omega), ?_⟩
  exact ((h1.mul h2).mono (show k + k ≤ 2 * k by omega)).sub (h3.mono (show k ≤ 2 * k by omega))
theorem mul_bg {k : Nat} {g h : G} (a : Bg k g) (b : Bg k h) : Bg (2 * k + 2) (g.mul h) := by
  obtain ⟨a1, a2, a3⟩ := a
  obtain ⟨b1, b2, b3⟩ := b
  refine ⟨(a1.add b1).mono (by omega), (a2.add b2).mono (by omega), ?_⟩
  have c1 := (a3.add b3).mono (show k + 1 ≤ 2 * k + 1 by omega)
  have c2 := (a1.mul b2).mono (show k + k ≤ 2 * k + 1 by omega)
  exact (c1.add c2).mono (by omega)
theorem bd_le {n m : Int} {k : Nat} (h1 : -m ≤ n) (h2 : n ≤ m) (h : Bd k m) : Bd k n := by
  unfold Bd at *
  omega
theorem bd_of_lt {n : Int} {k m : Nat} (h0 : 0 ≤ n) (h1 : n < k) (h : k ≤ 2 ^ m) : Bd m n := by
  unfold Bd
  omega
def sp_l_powers_right (T : Tx K mg) : Sp := fun vs H Q E => ∃ (p r : Addr) (g : G) (B : Int), vs = [.ref p, .ref r] ∧ Pen H p B ∧ B ≤ 700000 ∧ PG' T H r g ∧ Bg 1000 g ∧ ∀ H', But p H H' → Pen H' p (B + 30) → Q (.bl true) H'
theorem ok_l_powers_right (T : Tx K mg) : FnOk P w K mg base (L2.CX P w) 9 T.a_l_powers_right T.d_l_powers_right P_l_powers_right (sp_l_powers_right T) := by
  have G_l_draw : FnOk P w K mg base (L2.CX P w) 1 _ _ _ _ := ok_l_draw T
  have G_l_pick : FnOk P w K mg base (L2.CX P w) 2 _ _ _ _ := ok_l_pick T
  have G_l_whole : FnOk P w K mg base (L2.CX P w) 3 _ _ _ _ := ok_l_whole T
  have G_Place_power : FnOk P w K mg base (L2.CX P w) 6 _ _ _ _ := ok_Place_power T
  have G_Place_mul : FnOk P w K mg base (L2.CX P w) 6 _ _ _ _ := ok_Place_mul T
  have G_Place_invert : FnOk P w K mg base (L2.CX P w) 6 _ _ _ _ := ok_Place_invert T
  have G_Place_eq : FnOk P w K mg base (L2.CX P w) 1 _ _ _ _ := ok_Place_eq T
  have G_product_of : FnOk P w K mg base (L2.CX P w) 8 _ _ _ _ := ok_product_of T
  have G_home_place : FnOk P w K mg base (L2.CX P w) 6 _ _ _ _ := ok_home_place T
  refine T.F_l_powers_right.okX sc_l_powers_right (fun vs H Q E h => ?_) (fun cdv A outer s H vs Q E hr h => ?_)
  · obtain ⟨p, r, g, B, rfl, _⟩ := h
    rfl
  · obtain ⟨p, r, g, B, rfl, hp, hB, hg, bg, k⟩ := h
    refine ⟨_, (pss_cons (ps_par (i := 2) (j := 3) (by rfl) sc_l_powers_right.nd rfl rfl (by decide) rfl rfl (pa_cons (pe_call G_l_draw (hr.mono (by decide)) (by rfl) T.g_l_draw T.F_l_draw.kp T.b_l_draw .nil passL (pa_cons (pv 0) (pa_cons pe_int pa_nil))) (pa_cons (pe_call G_l_whole (hr.mono (by decide)) (by rfl) T.g_l_whole T.F_l_whole.kp T.b_l_whole .nil passL (pa_cons (pv 0) (pa_cons (pe_call G_l_pick (hr.mono (by decide)) (by rfl) T.g_l_pick T.F_l_pick.kp T.b_l_pick .nil passL (pa_cons (pv 0) (pa_cons (pe_lst (pa_cons pe_int (pa_cons (pe_op op_pow pe_int pe_int) pa_nil))) pa_nil))) pa_nil))) pa_nil)) (by rfl))
 (pss_cons (ps_if (PW.pt (pw_or (pt_cmpR (op_neO T.E_Place G_Place_eq (hr.mono (by decide)) T.b_Place_eq passL) (pe_meth (pv 1) T.cl_Place T.M_Place_power G_Place_power (hr.mono (by decide)) T.b_Place_power .nil passL (pa_cons (pv 2) pa_nil)) (pe_call G_product_of (hr.mono (by decide)) (by rfl) T.g_product_of T.F_product_of.kp T.b_product_of .nil passL (pa_cons (pe_op op_rep (pe_lst (pa_cons (pv 1) pa_nil)) (pv 2)) pa_nil)) (nomark _)) (pw_or1 (pt_cmpR (op_neO T.E_Place G_Place_eq (hr.mono (by decide)) T.b_Place_eq passL) (pe_meth (pv 1) T.cl_Place T.M_Place_power G_Place_power (hr.mono (by decide)) T.b_Place_power .nil passL (pa_cons (pe_un un_neg (pv 2)) pa_nil)) (pe_un (un_invO T.m_Place_invert T.i_Place_invert G_Place_invert (hr.mono (by decide)) T.b_Place_invert passL) (pe_meth (pv 1) T.cl_Place T.M_Place_power G_Place_power (hr.mono (by decide)) T.b_Place_power .nil passL (pa_cons (pv 2) pa_nil))) (nomark _)))))
 (pss_one (ps_ret pe_bl))
 pss_nil)
 (pss_cons (ps_set (i := 4) sc_l_powers_right.nd rfl (.inl rfl) (pe_meth (pv 1) T.cl_Place T.M_Place_power G_Place_power (hr.mono (by decide)) T.b_Place_power .nil passL (pa_cons (pv 3) pa_nil)))
 (pss_cons (ps_if (pt_cmpR (op_neO T.E_Place G_Place_eq (hr.mono (by decide)) T.b_Place_eq passL) (pe_op (op_ownO T.O_Place_Mult G_Place_mul (hr.mono (by decide)) T.b_Place_mul passL) (pv 4) (pe_meth (pv 1) T.cl_Place T.M_Place_power G_Place_power (hr.mono (by decide)) T.b_Place_power .nil passL (pa_cons (pv 2) pa_nil))) (pe_meth (pv 1) T.cl_Place T.M_Place_power G_Place_power (hr.mono (by decide)) T.b_Place_power .nil passL (pa_cons (pe_op op_add (pv 3) (pv 2)) pa_nil)) (nomark _))
 (pss_one (ps_ret pe_bl))
 pss_nil)
 (pss_one (ps_ret (pe_and (pe_cmpR (op_eqO T.E_Place G_Place_eq (hr.mono (by decide)) T.b_Place_eq passL) (pe_meth (pv 4) T.cl_Place T.M_Place_power G_Place_power (hr.mono (by decide)) T.b_Place_power .nil passL (pa_cons (pv 2) pa_nil)) (pe_meth (pv 1) T.cl_Place T.M_Place_power G_Place_power (hr.mono (by decide)) T.b_Place_power .nil passL (pa_cons (pe_op op_mul (pv 3) (pv 2)) pa_nil)) (nomark _)) (pe_one (pe_cmpR (op_eqO T.E_Place G_Place_eq (hr.mono (by decide)) T.b_Place_eq passL) (pe_meth (pv 1) T.cl_Place T.M_Place_power G_Place_power (hr.mono (by decide)) T.b_Place_power .nil passL (pa_cons pe_int pa_nil)) (pe_call0 G_home_place (hr.mono (by decide)) (by rfl) T.g_home_place T.F_home_place.kp T.b_home_place .nil passL) (nomark _)))))))))), ?_⟩
    have np : r ≠ p := by
      obtain ⟨c, ns, st, rr, e1, _⟩ := hp.at_
      obtain ⟨dx, e2⟩ := hg
      exact ne_of e2 e1 (by intro z; cases z)
    have cp : CPow 10 30 := ⟨by decide, by decide, by decide⟩
    refine ⟨_, rfl, p, 9, B, rfl, by decide, by decide, hp, by omega, fun m H1 hm b1 q1 => ?_⟩
    refine ⟨_, rfl, _, rfl, _, _, rfl, rfl, cp, (by show 2 ≤ sizeLine; decide), fun l nl => ?_⟩
    have bl : But p H (upd H1 l (.lst [.int 5, .int (10 ^ (30 : Int).toNat)])) := b1.new nl
    refine ⟨p, .ref l, _, rfl, q1.mono (Int.le_refl _) (Same.laid nl), by omega, .inl ⟨l, _, rfl, upd_same, by decide, by decide, fun v H2 hv b2 q2 => ?_⟩⟩
    obtain ⟨n, rfl, n0, nb⟩ : ∃ n : Int, v = .int n ∧ 0 ≤ n ∧ Bd 200 n := by
      simp only [List.mem_cons, List.mem_nil_iff, or_false] at hv
      rcases hv with rfl | rfl
      · exact ⟨5, rfl, by decide, (by show (5 : Int).natAbs < 2 ^ 200; decide)⟩
      · exact ⟨_, rfl, by decide, (by show ((10 : Int) ^ (30 : Int).toNat).natAbs < 2 ^ 200; decide)⟩
    refine ⟨p, n, _, rfl, n0, q2, by omega, fun f H3 hf b3 q3 => ?_⟩
    refine ⟨_, _, rfl, ?_⟩
    have bH : But p H H3 := (bl.trans b2).trans b3
    have hg3 : PG' T H3 r g := by
      obtain ⟨dx, e2⟩ := hg
      exact ⟨dx, bH.st _ _ np e2⟩
    have bm : Bd 10 m := bd_of_lt hm.1 (k := 9) (by have := hm.2; omega) (by decide)
    have bf : Bd 200 f := bd_le hf.1 hf.2 nb
    have fin : ∀ H', Same H3 H' → Q (.bl true) H' := fun H' s' => k H' (bH.trans (But.of s')) (q3.mono (by omega) s')
    obtain ⟨m, rfl⟩ := Int.eq_ofNat_of_zero_le hm.1
    obtain ⟨dr, er⟩ := id hg3
    refine ⟨_, rfl, r, dr, _, rfl, er, flds_no _ _ _ rfl rfl rfl, _, rfl, pow_g T hg3 (bg.1.mono (by decide)) (bg.2.1.mono (by decide)) (bg.2.2.mono (by decide)) (bm.mono (by decide)) fun r1 H4 s4 n4 p4 => ?_⟩
    have hg4 := hg3.mono s4
    have bigm := pw_bg bg bm (by decide)
    -- product_of([place] * many)
    refine ⟨_, rfl, (by show 1 ≤ sizeLine; decide), fun l2 nl2 => ⟨_, rfl, l2, _, _, rfl, rfl, upd_same, by omega, by omega, ?_, fun l3 nl3 => ?_⟩⟩
    · show 1 * m ≤ sizeLine
      have : (1000 : Nat) ≤ sizeLine := by decide
      omega
    have s5 : Same H4 (upd (upd H4 l2 (.lst [.ref r])) l3 (.lst (List.replicate (m : Int).toNat [V.ref r]).flatten)) := Same.after (Same.laid nl2) nl3
    have e5 : upd (upd H4 l2 (.lst [.ref r])) l3 (.lst (List.replicate (m : Int).toNat [V.ref r]).flatten) l3 = some (.lst (List.replicate m (V.ref r))) := by
      rw [upd_same, List.flatten_replicate_singleton]
      rfl
    generalize upd (upd H4 l2 (.lst [.ref r])) l3 (.lst (List.replicate (m : Int).toNat [V.ref r]).flatten) = H5 at s5 e5 ⊢
    have pls : Pls T H5 (List.replicate m (V.ref r)) (List.replicate m g) := by
      refine ⟨by simp, fun i v g' h1 h2 => ?_⟩
      have e1 := List.eq_of_mem_replicate (List.mem_of_getElem? h1)
      have e2 := List.eq_of_mem_replicate (List.mem_of_getElem? h2)
      subst e1; subst e2
      exact ⟨r, rfl, hg4.mono s5⟩
    refine ⟨l3, _, List.replicate m g, rfl, SqL.of e5, by rw [List.length_replicate]; omega, fun g' h' => ?_, .inl ⟨pls, fun r2 H6 s6 n6 p6 => ?_⟩⟩
    · rw [List.eq_of_mem_replicate h']
      exact ⟨bg.1.mono (by decide), bg.2.1.mono (by decide)⟩
    have p6 : PG' T H6 r2 (G.prod (List.replicate m g)) := p6
    rw [G.prod_rep] at p6
    have s46 := s5.trans s6
    have hg6 := hg4.mono s46
    refine eq_g T (h := g.pw m) ((show PG' T H4 r1 (g.pw m) from p4).mono s46) p6 ⟨_, rfl, ?_⟩
    refine ifN (by simp) ?_
    -- place.power(-many) != ~place.power(many)
    obtain ⟨dr6, er6⟩ := id hg6
    refine ⟨_, rfl, r, dr6, _, rfl, er6, flds_no _ _ _ rfl rfl rfl, _, rfl, _, rfl, pow_g T hg6 (bg.1.mono (by decide)) (bg.2.1.mono (by decide)) (bg.2.2.mono (by decide)) (bm.neg.mono (by decide)) fun r3 H7 s7 n7 p7 => ?_⟩
    have hg7 := hg6.mono s7
    obtain ⟨dr7, er7⟩ := id hg7
    refine ⟨_, rfl, r, dr7, _, rfl, er7, flds_no _ _ _ rfl rfl rfl, _, rfl, pow_g T hg7 (bg.1.mono (by decide)) (bg.2.1.mono (by decide)) (bg.2.2.mono (by decide)) (bm.mono (by decide)) fun r4 H8 s8 n8 p8 => ?_⟩
    refine inv_g T (g := g.pw m) p8 (bigm.1.mono (by decide)) (bigm.2.1.mono (by decide)) fun r5 H9 s9 n9 p9 => ?_
    refine eq_g T (g := g.pw (-m)) (h := (g.pw m).inv) (((show PG' T H7 r3 (g.pw (-m)) from p7).mono s8).mono s9) p9 ⟨_, rfl, ?_⟩
    refine ifN (by rw [G.pw_neg]; simp) ?_
    -- far = place.power(few)
    have s49 := (s7.trans s8).trans s9
    have hg9 := hg6.mono s49
    obtain ⟨dr9, er9⟩ := id hg9
    refine ⟨_, rfl, r, dr9, _, rfl, er9, flds_no _ _ _ rfl rfl rfl, _, rfl, pow_g T hg9 (bg.1.mono (by decide)) (bg.2.1.mono (by decide)) (bg.2.2.mono (by decide)) (bf.mono (by decide)) fun rf H10 s10 n10 pf => ?_⟩
    have pf : PG' T H10 rf (g.pw f) := pf
    have bigf := pw_bg bg bf (by decide)
    -- far * place.power(many) != place.power(few + many)
    have hg10 := hg9.mono s10
    obtain ⟨dr10, er10⟩ := id hg10
    refine ⟨_, rfl, _, rfl, r, dr10, _, rfl, er10, flds_no _ _ _ rfl rfl rfl, _, rfl, pow_g T hg10 (bg.1.mono (by decide)) (bg.2.1.mono (by decide)) (bg.2.2.mono (by decide)) (bm.mono (by decide)) fun r6 H11 s11 n11 p11 => ?_⟩
    refine mul_g T (g := g.pw f) (h := g.pw m) (pf.mono s11) p11 (bigf.1.mono (by decide)) (bigm.2.1.mono (by decide)) fun r7 H12 s12 n12 p12 => ?_
    have hg12 := (hg10.mono s11).mono s12
    obtain ⟨dr12, er12⟩ := id hg12
    refine ⟨_, rfl, r, dr12, _, rfl, er12, flds_no _ _ _ rfl rfl rfl, _, rfl, _, rfl, _, _, rfl, rfl, pow_g T (n := f + m) hg12 (bg.1.mono (by decide)) (bg.2.1.mono (by decide)) (bg.2.2.mono (by decide)) ((bf.add (bm.mono (by decide))).mono (by decide)) fun r8 H13 s13 n13 p13 => ?_⟩
    refine eq_g T (g := (g.pw f).mul (g.pw m)) (h := g.pw (f + m)) ((show PG' T H12 r7 ((g.pw f).mul (g.pw m)) from p12).mono s13) p13 ⟨_, rfl, ?_⟩
    refine ifN (by rw [G.pw_add]; simp) ?_
    -- far.power(many) == place.power(few * many) and place.power(0) == home_place()
    have pf13 := ((pf.mono s11).mono s12).mono s13
    obtain ⟨df13, ef13⟩ := id pf13
    refine ⟨_, rfl, rf, df13, _, rfl, ef13, flds_no _ _ _ rfl rfl rfl, _, rfl, pow_g T pf13 (bigf.1.mono (by decide)) (bigf.2.1.mono (by decide)) (bigf.2.2.mono (by decide)) (bm.mono (by decide)) fun r9 H14 s14 n14 p14 => ?_⟩
    have hg14 := (hg12.mono s13).mono s14
    obtain ⟨dr14, er14⟩ := id hg14
    have small : CMul f m := .inr ⟨by omega, by omega⟩
    refine ⟨_, rfl, r, dr14, _, rfl, er14, flds_no _ _ _ rfl rfl rfl, _, rfl, _, rfl, _, _, rfl, rfl, small, pow_g T (n := f * m) hg14 (bg.1.mono (by decide)) (bg.2.1.mono (by decide)) (bg.2.2.mono (by decide)) ((bf.mul bm).mono (by decide)) fun r10 H15 s15 n15 p15 => ?_⟩
    refine eq_g T (f := id) (g := (g.pw f).pw m) (h := g.pw (f * m)) ((show PG' T H14 r9 ((g.pw f).pw m) from p14).mono s15) p15 ⟨_, rfl, ?_⟩
    refine ifT (by rw [G.pw_pw]; simp) ?_
    have hg15 := hg14.mono s15
    obtain ⟨dr15, er15⟩ := id hg15
    refine ⟨_, rfl, r, dr15, _, rfl, er15, flds_no _ _ _ rfl rfl rfl, pow_g T (n := 0) hg15 (bg.1.mono (by decide)) (bg.2.1.mono (by decide)) (bg.2.2.mono (by decide)) (by show 0 < 2 ^ 100000; exact Nat.pow_pos (by decide)) fun r11 H16 s16 n16 p16 => ?_⟩
    refine ⟨rfl, fun r12 H17 s17 n17 p17 => ?_⟩
    refine eq_g T (f := id) (g := g.pw 0) (h := G.one) ((show PG' T H16 r11 (g.pw 0) from p16).mono s17) p17 ?_
    have e : id (decide (g.pw 0 = G.one)) = true := by rw [G.pw_zero]; simp
    rw [e]
    exact fin _ ((((((((((((s4.trans s46).trans s49).trans s10).trans s11).trans s12).trans s13).trans s14).trans s15).trans s16).trans s17)))
end
end AW

set_option linter.all false
set_option maxRecDepth 100000
set_option maxHeartbeats 16000000
namespace AW
open PySem PySem.Spec PyProof.Rows L2
section
variable {P : Program} {w : World} {K : PySem.W.Frag} {mg : Str → Option Value} {base : Heap}
/-- the lambdas of the refusals, by their table -/
abbrev lamQ : Str := (envOfC "_law_refusals_right" (defScope s_l_refusals_right) 0 0 .none).qual ++ "<lambda>"
def tabs1 (T : Tx K mg) : List (Addr × Str) := [(T.pt_l_refusals_right, lamQ)]
theorem NoP.mono' {T : Tx K mg} {p : Addr} {H H' : Hp} {v : V} (h : Odd p H v) (s : Bx p H H') : NoP T H' v := (h.mono s).nop
def sp_l_refusals_right (T : Tx K mg) : Sp := fun vs H Q E => ∃ (p r : Addr) (g : G) (B : Int), vs = [.ref p, .ref r] ∧ Pen H p B ∧ B ≤ 700000 ∧ PG' T H r g ∧ Bg 1000 g ∧ LamX.Tabs (tabs1 T) H ∧ ∀ H', Bx p H H' → LamX.Tabs (tabs1 T) H' → Pen H' p (B + 2) → Q (.bl true) H'
theorem PG'.bx {T : Tx K mg} {p r : Addr} {H H' : Hp} {g : G} (s : Bx p H H') (n : r ≠ p) (h : PG' T H r g) : PG' T H' r g := let ⟨dx, e⟩ := h; ⟨dx, s _ _ n e (fun _ z => nomatch z)⟩
theorem Pen.ext {p : Addr} {H H' : Hp} {B : Int} (s : LamX.ExtN H H') (h : Pen H p B) : Pen H' p B := by
  obtain ⟨c, ns, z, r, e1, e2, h1, h2, h3⟩ := h.at_
  exact ⟨⟨c, ns, z, r, s _ _ e1 (fun _ z => nomatch z), s _ _ e2 (fun _ z => nomatch z), h1, h2, h3⟩⟩
theorem tabs_same {T : List (Addr × Str)} {H H' : Hp} (t : LamX.Tabs T H) (s : Same H H') : LamX.Tabs T H' := t.ext s
/-- what stands between two checks -/
structure Mid (T : Tx K mg) (p r : Addr) (g : G) (o1 o2 : V) (B : Int) (H0 H : Hp) : Prop where
  bx : Bx p H0 H
  tb : LamX.Tabs (tabs1 T) H
  pen : Pen H p B
  pl : PG' T H r g
  o1 : Odd p H o1
  o2 : Odd p H o2
theorem Mid.next {T : Tx K mg} {p r : Addr} {g : G} {o1 o2 : V} {B : Int} {H0 H H1 H2 : Hp} (m : Mid T p r g o1 o2 B H0 H) (np : r ≠ p) (ex : LamX.ExtN H H1) (tb : LamX.Tabs (tabs1 T) H1) (s : Same H1 H2) : Mid T p r g o1 o2 B H0 H2 := by
  have b : Bx p H H2 := (Bx.ext ex).trans (Bx.of s)
  exact ⟨m.bx.trans b, tabs_same tb s, (m.pen.ext ex).mono (Int.le_refl _) s, m.pl.bx b np, m.o1.mono b, m.o2.mono b⟩
theorem ok_l_refusals_right (T : Tx K mg) (TB : LamX.TabB base mg T.cc_l_refusals_right T.pt_l_refusals_right) : FnOk P w K mg base (L2.CX P w) 14 T.a_l_refusals_right T.d_l_refusals_right P_l_refusals_right (sp_l_refusals_right T) := by
  have G_l_pick : FnOk P w K mg base (L2.CX P w) 2 _ _ _ _ := ok_l_pick T
  have G_l_same : FnOk P w K mg base (L2.CX P w) 3 _ _ _ _ := ok_l_same T
  have G_Place_init : FnOk P w K mg base (L2.CX P w) 4 _ _ _ _ := ok_Place_init T
  have G_Place_power : FnOk P w K mg base (L2.CX P w) 6 _ _ _ _ := ok_Place_power T
  have G_Place_lifted : FnOk P w K mg base (L2.CX P w) 6 _ _ _ _ := ok_Place_lifted T
  have G_Place_twist : FnOk P w K mg base (L2.CX P w) 6 _ _ _ _ := ok_Place_twist T
  have G_Place_mul : FnOk P w K mg base (L2.CX P w) 6 _ _ _ _ := ok_Place_mul T
  have G_Place_eq : FnOk P w K mg base (L2.CX P w) 1 _ _ _ _ := ok_Place_eq T
  have G_product_of : FnOk P w K mg base (L2.CX P w) 8 _ _ _ _ := ok_product_of T
  refine T.FC_l_refusals_right.okX sc_l_refusals_right (fun vs H Q E h => ?_) (fun A outer s H vs Q E hr h => ?_)
  · obtain ⟨p, r, g, B, rfl, _⟩ := h
    rfl
  · obtain ⟨p, r, g, B, rfl, hp, hB, hg, bg, htb, k⟩ := h
    obtain ⟨ocR, odR, kVR, dcR, pmR, anR, cdvR, ctR, oslR, eR, lkR, cdR⟩ := T.F_l_refused.ex
    have bR : Binds K T.d_l_refused P_l_refused [] := T.b_l_refused
    rw [eR] at lkR bR
    obtain ⟨T1, hT1⟩ : ∃ T1, T1 = tabs1 T := ⟨_, rfl⟩
    have hmT : (T.pt_l_refusals_right, lamQ) ∈ T1 := by rw [hT1]; exact List.mem_singleton.mpr rfl
    have huT : ∀ q ∈ T1, q.1 = T.pt_l_refusals_right → q.2 = lamQ := fun q hq _ => by
      rw [hT1] at hq
      have e := List.mem_singleton.mp hq
      rw [e]
    have hu := hu_of hr
    refine ⟨_, (pss_cons (ps_set (i := 2) sc_l_refusals_right.nd rfl (.inl rfl) (pe_lst (pa_cons pe_non (pa_cons pe_bl (pa_cons pe_bl (pa_cons pe_str (pa_cons (pe_lst (pa_cons pe_int pa_nil)) (pa_cons (pe_tup (pa_cons pe_int (pa_cons pe_int pa_nil))) (pa_cons pe_dnewK pa_nil)))))))))
 (pss_cons (ps_asg (pe_tup (pa_cons (pe_call G_l_pick (hr.mono (by decide)) (by rfl) T.g_l_pick T.F_l_pick.kp T.b_l_pick .nil passL (pa_cons (pv 0) (pa_cons (pv 2) pa_nil))) (pa_cons (pe_call G_l_pick (hr.mono (by decide)) (by rfl) T.g_l_pick T.F_l_pick.kp T.b_l_pick .nil passL (pa_cons (pv 0) (pa_cons (pv 2) pa_nil))) pa_nil))) (pg_tup rfl (pgs_cons (pg_name (i := 3) sc_l_refusals_right.nd rfl (.inr rfl)) (pgs_cons (pg_name (i := 4) sc_l_refusals_right.nd rfl (.inr rfl)) pgs_nil))))
 (pss_cons (ps_if (pt_not (pt_val (pe_call G_l_same (hr.mono (by decide)) (by rfl) T.g_l_same T.F_l_same.kp T.b_l_same .nil passL (pa_cons (LamX.pe_lamcall (T := T1) (TT := TTref T) (k := 10) (by rfl) T.g_l_refused T.F_l_refused.kp lkR cdR bR sc_l_refused rfl (.inl rfl) (refused_gives T rfl rfl) TB rfl hmT huT (hr.mono (by decide)) (LamX.lamS_by (sc := defScope s_l_refusals_right) (by decide +kernel)) rfl (fun _ _ _ _ _ => rfl) (fun A outer s H E f c hr => (pe_make T.M_Place G_Place_init (hr.mono (by decide)) (by rfl) T.g_C_Place T.b_Place_init .nil (passE (E := E)) (pa_cons pe_int (pa_cons (pv 3) (pa_cons (pv 4) pa_nil)))))) (pa_cons (pe_tup (pa_cons pe_str (pa_cons (pv 3) pa_nil))) pa_nil)))))
 (pss_one (ps_ret pe_bl))
 pss_nil)
 (pss_cons (ps_if (pt_not (pt_val (pe_call G_l_same (hr.mono (by decide)) (by rfl) T.g_l_same T.F_l_same.kp T.b_l_same .nil passL (pa_cons (LamX.pe_lamcall (T := T1) (TT := TTref T) (k := 10) (by rfl) T.g_l_refused T.F_l_refused.kp lkR cdR bR sc_l_refused rfl (.inl rfl) (refused_gives T rfl rfl) TB rfl hmT huT (hr.mono (by decide)) (LamX.lamS_by (sc := defScope s_l_refusals_right) (by decide +kernel)) rfl (fun _ _ _ _ _ => rfl) (fun A outer s H E f c hr => (pe_make T.M_Place G_Place_init (hr.mono (by decide)) (by rfl) T.g_C_Place T.b_Place_init .nil (passE (E := E)) (pa_cons (pv 4) (pa_cons (pv 3) (pa_cons pe_int pa_nil)))))) (pa_cons (pe_tup (pa_cons pe_str (pa_cons (pv 4) pa_nil))) pa_nil)))))
 (pss_one (ps_ret pe_bl))
 pss_nil)
 (pss_cons (ps_if (pt_not (pt_val (pe_call G_l_same (hr.mono (by decide)) (by rfl) T.g_l_same T.F_l_same.kp T.b_l_same .nil passL (pa_cons (LamX.pe_lamcall (T := T1) (TT := TTref T) (k := 10) (by rfl) T.g_l_refused T.F_l_refused.kp lkR cdR bR sc_l_refused rfl (.inl rfl) (refused_gives T rfl rfl) TB rfl hmT huT (hr.mono (by decide)) (LamX.lamS_by (sc := defScope s_l_refusals_right) (by decide +kernel)) rfl (fun _ _ _ _ _ => rfl) (fun A outer s H E f c hr => (pe_meth (pv 1) T.cl_Place T.M_Place_power G_Place_power (hr.mono (by decide)) T.b_Place_power .nil (passE (E := E)) (pa_cons (pv 3) pa_nil)))) (pa_cons (pe_tup (pa_cons pe_str (pa_cons (pv 3) pa_nil))) pa_nil)))))
 (pss_one (ps_ret pe_bl))
 pss_nil)
 (pss_cons (ps_if (pt_not (pt_val (pe_call G_l_same (hr.mono (by decide)) (by rfl) T.g_l_same T.F_l_same.kp T.b_l_same .nil passL (pa_cons (LamX.pe_lamcall (T := T1) (TT := TTref T) (k := 10) (by rfl) T.g_l_refused T.F_l_refused.kp lkR cdR bR sc_l_refused rfl (.inl rfl) (refused_gives T rfl rfl) TB rfl hmT huT (hr.mono (by decide)) (LamX.lamS_by (sc := defScope s_l_refusals_right) (by decide +kernel)) rfl (fun _ _ _ _ _ => rfl) (fun A outer s H E f c hr => (pe_meth (pv 1) T.cl_Place T.M_Place_lifted G_Place_lifted (hr.mono (by decide)) T.b_Place_lifted .nil (passE (E := E)) (pa_cons (pv 4) pa_nil)))) (pa_cons (pe_tup (pa_cons pe_str (pa_cons (pv 4) pa_nil))) pa_nil)))))
 (pss_one (ps_ret pe_bl))
 pss_nil)
 (pss_cons (ps_if (pt_not (pt_val (pe_call G_l_same (hr.mono (by decide)) (by rfl) T.g_l_same T.F_l_same.kp T.b_l_same .nil passL (pa_cons (LamX.pe_lamcall (T := T1) (TT := TTref T) (k := 10) (by rfl) T.g_l_refused T.F_l_refused.kp lkR cdR bR sc_l_refused rfl (.inl rfl) (refused_gives T rfl rfl) TB rfl hmT huT (hr.mono (by decide)) (LamX.lamS_by (sc := defScope s_l_refusals_right) (by decide +kernel)) rfl (fun _ _ _ _ _ => rfl) (fun A outer s H E f c hr => (pe_meth (pv 1) T.cl_Place T.M_Place_twist G_Place_twist (hr.mono (by decide)) T.b_Place_twist .nil (passE (E := E)) (pa_cons (pv 3) pa_nil)))) (pa_cons (pe_tup (pa_cons pe_str (pa_cons (pv 3) pa_nil))) pa_nil)))))
 (pss_one (ps_ret pe_bl))
 pss_nil)
 (pss_cons (ps_if (pt_not (pt_val (pe_call G_l_same (hr.mono (by decide)) (by rfl) T.g_l_same T.F_l_same.kp T.b_l_same .nil passL (pa_cons (LamX.pe_lamcall (T := T1) (TT := TTref T) (k := 10) (by rfl) T.g_l_refused T.F_l_refused.kp lkR cdR bR sc_l_refused rfl (.inl rfl) (refused_gives T rfl rfl) TB rfl hmT huT (hr.mono (by decide)) (LamX.lamS_by (sc := defScope s_l_refusals_right) (by decide +kernel)) rfl (fun _ _ _ _ _ => rfl) (fun A outer s H E f c hr => (pe_call G_product_of (hr.mono (by decide)) (by rfl) T.g_product_of T.F_product_of.kp T.b_product_of .nil (passE (E := E)) (pa_cons (pe_lst (pa_cons (pv 1) (pa_cons (pv 4) (pa_cons (pv 3) pa_nil)))) pa_nil)))) (pa_cons (pe_tup (pa_cons pe_str (pa_cons (pv 4) pa_nil))) pa_nil)))))
 (pss_one (ps_ret pe_bl))
 pss_nil)
 (pss_cons (ps_if (pt_not (pt_val (pe_call G_l_same (hr.mono (by decide)) (by rfl) T.g_l_same T.F_l_same.kp T.b_l_same .nil passL (pa_cons (LamX.pe_lamcall (T := T1) (TT := TTref T) (k := 10) (by rfl) T.g_l_refused T.F_l_refused.kp lkR cdR bR sc_l_refused rfl (.inl rfl) (refused_gives T rfl rfl) TB rfl hmT huT (hr.mono (by decide)) (LamX.lamS_by (sc := defScope s_l_refusals_right) (by decide +kernel)) rfl (fun _ _ _ _ _ => rfl) (t := fun E => tOp (rOpO K T.C_Place .Mult (sp_Place_mul T) E) (tVar 1) (tVar 3)) (fun A outer s H E f c hr => (pe_op (op_ownO T.O_Place_Mult G_Place_mul (hr.mono (by decide)) T.b_Place_mul (passE (E := E))) (pv 1) (pv 3)))) (pa_cons (pe_tup (pa_cons pe_str (pa_cons (pv 3) pa_nil))) pa_nil)))))
 (pss_one (ps_ret pe_bl))
 pss_nil)
 (pss_one (ps_ret (pe_callB (cr_all rfl) (by rfl) T.n_all (by decide +kernel) (pa_cons (pe_lc (te := (tAndV (tOp (rEqO K T.C_Place (sp_Place_eq T) E0 not) (tVar 1) (tVar 5)) (tNotV (tOp (rEqO K T.C_Place (sp_Place_eq T) E0 id) (tVar 1) (tVar 5))))) (own := [("_law_thing", 5)]) (g := gName 5) (by rfl) sc_l_refusals_right.nd (pi_list (pe_op op_cat (pv 2) (pe_lst (pa_cons (pe_tup (pa_cons (pe_fld (pv 1) rfl) (pa_cons (pe_fld (pv 1) rfl) (pa_cons (pe_fld (pv 1) rfl) pa_nil)))) pa_nil)))) (blkOk_by (own := [("_law_thing", 5)]) (N := N_l_refusals_right) (sc := defScope s_l_refusals_right) (by decide +kernel)) (fun _ _ _ _ _ => pg_name (i := 5) sc_l_refusals_right.nd rfl (Or.inl rfl)) (fun _ _ _ _ _ => pts_nil) (fun _ _ _ _ _ => (pe_and (pe_cmpR (op_neO T.E_Place G_Place_eq (hr.mono (by decide)) T.b_Place_eq passL) (pv 1) (pv 5) (nomark _)) (pe_one (pe_not (pe_cmpR (op_eqO T.E_Place G_Place_eq (hr.mono (by decide)) T.b_Place_eq passL) (pv 1) (pv 5) (nomark _))))))) pa_nil))))))))))))), ?_⟩
    have np : r ≠ p := by
      obtain ⟨c, ns, st, rr, e1, _⟩ := hp.at_
      obtain ⟨dx, e2⟩ := hg
      exact ne_of e2 e1 (by intro z; cases z)
    -- the odd values
    refine ⟨(by show 1 ≤ sizeLine; decide), fun l1 n1 => ?_⟩
    have s1 : Same H (upd H l1 (.lst [.int 1])) := Same.laid n1
    refine ⟨(by show 2 ≤ sizeLine; decide), fun t1 n2 => ?_⟩
    have s2 := Same.after (o := .tup [.int 1, .int 2]) s1 n2
    intro d1 n3
    have s3 := Same.after (o := .dK []) s2 n3
    refine ⟨(by show 7 ≤ sizeLine; decide), fun lo n4 => ?_⟩
    have s4 := Same.after (o := .lst [.non, .bl true, .bl false, .str "1", .ref l1, .ref t1, .ref d1]) s3 n4
    have pH : H p ≠ none := hp.some
    have npl : ∀ {q : Addr} {H' : Hp}, Same H H' → H' q = none → q ≠ p := fun s e z => pH (by rw [← z]; exact s.free e)
    have m1 := npl (Same.refl H) n1
    have m2 := npl s1 n2
    have m3 := npl s2 n3
    have m4 := npl s3 n4
    have hlo : upd (upd (upd (upd H l1 (.lst [.int 1])) t1 (.tup [.int 1, .int 2])) d1 (.dK [])) lo (.lst [.non, .bl true, .bl false, .str "1", .ref l1, .ref t1, .ref d1]) lo = some (.lst [.non, .bl true, .bl false, .str "1", .ref l1, .ref t1, .ref d1]) := upd_same
    have hodd : ∀ v ∈ [V.non, .bl true, .bl false, .str "1", .ref l1, .ref t1, .ref d1], Odd p (upd (upd (upd (upd H l1 (.lst [.int 1])) t1 (.tup [.int 1, .int 2])) d1 (.dK [])) lo (.lst [.non, .bl true, .bl false, .str "1", .ref l1, .ref t1, .ref d1])) v := by
      have q1 := (Same.laid (o := .tup [.int 1, .int 2]) n2) _ _ (upd_same : upd H l1 (.lst [.int 1]) l1 = _)
      have q2 := (Same.laid (o := .dK []) n3) _ _ q1
      have q3 := (Same.laid (o := .lst [.non, .bl true, .bl false, .str "1", .ref l1, .ref t1, .ref d1]) n4) _ _ q2
      have r1 := (Same.laid (o := .dK []) n3) _ _ (upd_same : upd (upd H l1 (.lst [.int 1])) t1 (.tup [.int 1, .int 2]) t1 = _)
      have r2 := (Same.laid (o := .lst [.non, .bl true, .bl false, .str "1", .ref l1, .ref t1, .ref d1]) n4) _ _ r1
      have w1 := (Same.laid (o := .lst [.non, .bl true, .bl false, .str "1", .ref l1, .ref t1, .ref d1]) n4) _ _ (upd_same : upd (upd (upd H l1 (.lst [.int 1])) t1 (.tup [.int 1, .int 2])) d1 (.dK []) d1 = _)
      intro v hv
      simp only [List.mem_cons, List.mem_nil_iff, or_false] at hv
      rcases hv with rfl | rfl | rfl | rfl | rfl | rfl | rfl
      · exact .non
      · exact .bl _
      · exact .bl _
      · exact .str _
      · exact .lst q3 m1
      · exact .tup r2 m2
      · exact .dct w1 m3
    generalize hHo : upd (upd (upd (upd H l1 (.lst [.int 1])) t1 (.tup [.int 1, .int 2])) d1 (.dK [])) lo (.lst [.non, .bl true, .bl false, .str "1", .ref l1, .ref t1, .ref d1]) = Ho at s4 hlo hodd ⊢
    generalize hOs : [V.non, .bl true, .bl false, .str "1", .ref l1, .ref t1, .ref d1] = os at hlo hodd ⊢
    have hol : os.length = 7 := by rw [← hOs]; rfl
    refine ⟨_, rfl, _, rfl, p, .ref lo, B, rfl, hp.mono (Int.le_refl _) s4, by omega, .inl ⟨lo, os, rfl, hlo, by omega, by omega, fun o1 H1 ho1 b1 q1 => ?_⟩⟩
    refine ⟨_, rfl, _, rfl, p, .ref lo, _, rfl, q1, by omega, .inl ⟨lo, os, rfl, b1.st _ _ m4 hlo, by omega, by omega, fun o2 H2 ho2 b2 q2 => ?_⟩⟩
    refine ⟨(by show 2 ≤ sizeLine; decide), fun tp nt => ⟨tp, _, rfl, SqT.of upd_same, rfl, _, _, rfl, _, _, rfl, rfl, ?_⟩⟩
    have bo : Bx p Ho (upd H2 tp (.tup [o1, o2])) := ((Bx.but (b1.trans b2))).trans (Bx.of (Same.laid nt))
    have tT : ∀ {H' : Hp}, (∀ b o, b ≠ p → Ho b = some o → H' b = some o) → LamX.Tabs T1 H' := fun {H'} b => by
      rw [hT1]
      intro q hq
      obtain ⟨ps, h1, h2, h3⟩ := htb q hq
      have nq : q.1 ≠ p := by
        obtain ⟨c, ns, st, rr, e1, _⟩ := hp.at_
        exact ne_of h1 e1 (by intro z; cases z)
      refine ⟨ps, b _ _ nq (s4 _ _ h1), h2, fun pos cv hc => ?_⟩
      obtain ⟨c, e1, e2⟩ := h3 pos cv hc
      have nc : c ≠ p := by
        obtain ⟨c2, ns, st, rr, e3, _⟩ := hp.at_
        exact ne_of e2 e3 (by intro z; cases z)
      exact ⟨c, e1, b _ _ nc (s4 _ _ e2)⟩
    have M0 : Mid T p r g o1 o2 (B + 2) H (upd H2 tp (.tup [o1, o2])) :=
      ⟨(Bx.of s4).trans bo, by have := tT (H' := upd H2 tp (.tup [o1, o2])) ((b1.trans b2).new nt).st; rw [hT1] at this; exact this, q2.mono (by omega) (Same.laid nt), hg.bx ((Bx.of s4).trans bo) np, (hodd o1 ho1).mono bo, (hodd o2 ho2).mono bo⟩
    have hlo2 : upd H2 tp (.tup [o1, o2]) lo = some (.lst os) := ((b1.trans b2).new nt).st _ _ m4 hlo
    have hall : ∀ v ∈ os, Odd p (upd H2 tp (.tup [o1, o2])) v := fun v hv => (hodd v hv).mono bo
    generalize upd H2 tp (.tup [o1, o2]) = C0 at M0 hlo2 hall ⊢
    have K0 : Bx p C0 C0 := Bx.refl _
    -- check 1
    refine ⟨by rw [hT1]; exact M0.tb, fun X0 ex0 tb0 => ?_⟩
    rw [hT1] at tb0
    have N0 := M0.next np ex0 tb0 (Same.refl _)
    refine ⟨_, rfl, _, rfl, ?_⟩
    intro xx dx hx hd hne
    have sP := (Same.laid (o := .own xx) hd).trans (Same.laid (p := xx) (o := .ins T.C_Place dx []) (by rw [upd_ne (Ne.symm hne)]; exact hx))
    refine ⟨xx, dx, _, _, _, rfl, upd_same, .int 1, (N0.o1.mono (Bx.of sP)).nop.vl, (N0.o2.mono (Bx.of sP)).nop.vl, .inr ⟨o1, (by have z : intV (.int 1) = true := rfl; simp [List.find?, z, N0.o1.int]), fun dE HE sE nE eE => .inl ⟨rfl, dE, _, rfl, eE, fun tE GE sG eG => ?_⟩⟩⟩
    refine ⟨_, rfl, (by show 2 ≤ sizeLine; decide), fun t2 nt2 => ?_⟩
    have sQ0 : Same X0 (upd GE t2 (.tup [.str "number", o1])) := Same.after ((sP.trans sE).trans sG) nt2
    refine ⟨p, tE, t2, "number", _, rfl, (N0.o1).mono (Bx.of sQ0), (Same.laid nt2) _ _ eG, upd_same, fun C1 sC => ?_⟩
    have M1 := N0.next np (LamX.ExtN.refl _) N0.tb (sQ0.trans sC)
    have K1 : Bx p C0 C1 := (K0.trans (Bx.ext ex0)).trans (Bx.of (sQ0.trans sC))
    clear sQ0 sC eG sG eE nE sE
    refine ⟨_, rfl, ifN rfl ?_⟩
    -- check 2
    refine ⟨by rw [hT1]; exact M1.tb, fun X1 ex1 tb1 => ?_⟩
    rw [hT1] at tb1
    have N1 := M1.next np ex1 tb1 (Same.refl _)
    refine ⟨_, rfl, _, rfl, ?_⟩
    intro xx dx hx hd hne
    have sP := (Same.laid (o := .own xx) hd).trans (Same.laid (p := xx) (o := .ins T.C_Place dx []) (by rw [upd_ne (Ne.symm hne)]; exact hx))
    refine ⟨xx, dx, _, _, _, rfl, upd_same, (N1.o2.mono (Bx.of sP)).nop.vl, (N1.o1.mono (Bx.of sP)).nop.vl, .int 2, .inr ⟨o2, (by simp [List.find?, N1.o2.int]), fun dE HE sE nE eE => .inl ⟨rfl, dE, _, rfl, eE, fun tE GE sG eG => ?_⟩⟩⟩
    refine ⟨_, rfl, (by show 2 ≤ sizeLine; decide), fun t2 nt2 => ?_⟩
    have sQ1 : Same X1 (upd GE t2 (.tup [.str "number", o2])) := Same.after ((sP.trans sE).trans sG) nt2
    refine ⟨p, tE, t2, "number", _, rfl, (N1.o2).mono (Bx.of sQ1), (Same.laid nt2) _ _ eG, upd_same, fun C2 sC => ?_⟩
    have M2 := N1.next np (LamX.ExtN.refl _) N1.tb (sQ1.trans sC)
    have K2 : Bx p C0 C2 := (K1.trans (Bx.ext ex1)).trans (Bx.of (sQ1.trans sC))
    clear sQ1 sC eG sG eE nE sE
    refine ⟨_, rfl, ifN rfl ?_⟩
    -- check 3
    refine ⟨by rw [hT1]; exact M2.tb, fun X2 ex2 tb2 => ?_⟩
    rw [hT1] at tb2
    have N2 := M2.next np ex2 tb2 (Same.refl _)
    obtain ⟨dR, eR2⟩ := id N2.pl
    refine ⟨_, rfl, r, dR, _, rfl, eR2, flds_no _ _ _ rfl rfl rfl, _, rfl, r, _, _, _, _, rfl, N2.pl, (N2.o1.nop).vl, .inr ⟨N2.o1.int, fun dE HE sE nE eE => .inl ⟨rfl, dE, _, rfl, eE, fun tE GE sG eG => ?_⟩⟩⟩
    refine ⟨_, rfl, (by show 2 ≤ sizeLine; decide), fun t2 nt2 => ?_⟩
    have sQ2 : Same X2 (upd GE t2 (.tup [.str "number", o1])) := Same.after ((sE).trans sG) nt2
    refine ⟨p, tE, t2, "number", _, rfl, (N2.o1).mono (Bx.of sQ2), (Same.laid nt2) _ _ eG, upd_same, fun C3 sC => ?_⟩
    have M3 := N2.next np (LamX.ExtN.refl _) N2.tb (sQ2.trans sC)
    have K3 : Bx p C0 C3 := (K2.trans (Bx.ext ex2)).trans (Bx.of (sQ2.trans sC))
    clear sQ2 sC eG sG eE nE sE
    refine ⟨_, rfl, ifN rfl ?_⟩
    -- check 4
    refine ⟨by rw [hT1]; exact M3.tb, fun X3 ex3 tb3 => ?_⟩
    rw [hT1] at tb3
    have N3 := M3.next np ex3 tb3 (Same.refl _)
    obtain ⟨dR, eR2⟩ := id N3.pl
    refine ⟨_, rfl, r, dR, _, rfl, eR2, flds_no _ _ _ rfl rfl rfl, _, rfl, r, _, _, _, _, rfl, N3.pl, (N3.o2.nop).vl, .inr ⟨N3.o2.int, fun dE HE sE nE eE => .inl ⟨rfl, dE, _, rfl, eE, fun tE GE sG eG => ?_⟩⟩⟩
    refine ⟨_, rfl, (by show 2 ≤ sizeLine; decide), fun t2 nt2 => ?_⟩
    have sQ3 : Same X3 (upd GE t2 (.tup [.str "number", o2])) := Same.after ((sE).trans sG) nt2
    refine ⟨p, tE, t2, "number", _, rfl, (N3.o2).mono (Bx.of sQ3), (Same.laid nt2) _ _ eG, upd_same, fun C4 sC => ?_⟩
    have M4 := N3.next np (LamX.ExtN.refl _) N3.tb (sQ3.trans sC)
    have K4 : Bx p C0 C4 := (K3.trans (Bx.ext ex3)).trans (Bx.of (sQ3.trans sC))
    clear sQ3 sC eG sG eE nE sE
    refine ⟨_, rfl, ifN rfl ?_⟩
    -- check 5
    refine ⟨by rw [hT1]; exact M4.tb, fun X4 ex4 tb4 => ?_⟩
    rw [hT1] at tb4
    have N4 := M4.next np ex4 tb4 (Same.refl _)
    obtain ⟨dR, eR2⟩ := id N4.pl
    refine ⟨_, rfl, r, dR, _, rfl, eR2, flds_no _ _ _ rfl rfl rfl, _, rfl, r, _, _, _, _, rfl, N4.pl, .inr ⟨N4.o1.nop, fun dE HE sE nE eE => .inr ⟨rfl, dE, _, rfl, eE, fun tE GE sG eG => ?_⟩⟩⟩
    refine ⟨_, rfl, (by show 2 ≤ sizeLine; decide), fun t2 nt2 => ?_⟩
    have sQ4 : Same X4 (upd GE t2 (.tup [.str "place", o1])) := Same.after ((sE).trans sG) nt2
    refine ⟨p, tE, t2, "place", _, rfl, (N4.o1).mono (Bx.of sQ4), (Same.laid nt2) _ _ eG, upd_same, fun C5 sC => ?_⟩
    have M5 := N4.next np (LamX.ExtN.refl _) N4.tb (sQ4.trans sC)
    have K5 : Bx p C0 C5 := (K4.trans (Bx.ext ex4)).trans (Bx.of (sQ4.trans sC))
    clear sQ4 sC eG sG eE nE sE
    refine ⟨_, rfl, ifN rfl ?_⟩
    -- check 6
    refine ⟨by rw [hT1]; exact M5.tb, fun X5 ex5 tb5 => ?_⟩
    rw [hT1] at tb5
    have N5 := M5.next np ex5 tb5 (Same.refl _)
    refine ⟨_, rfl, _, rfl, _, rfl, (by show 3 ≤ sizeLine; decide), fun lp nlp => ?_⟩
    have sP := Same.laid (o := .lst [.ref r, o2, o1]) nlp
    refine ⟨lp, _, [g], rfl, SqL.of upd_same, (by show 1 ≤ 1000; decide), fun g' hg' => (by rw [List.mem_singleton.mp hg']; exact ⟨bg.1.mono (by decide), bg.2.1.mono (by decide)⟩), .inr ⟨o2, [o1], (Pls.nil.snoc (gs := []) (N5.pl.mono sP)), rfl, (N5.o2.mono (Bx.of sP)).nop, fun dE HE sE nE eE => .inr ⟨rfl, dE, _, rfl, eE, fun tE GE sG eG => ?_⟩⟩⟩
    refine ⟨_, rfl, (by show 2 ≤ sizeLine; decide), fun t2 nt2 => ?_⟩
    have sQ5 : Same X5 (upd GE t2 (.tup [.str "place", o2])) := Same.after ((sP.trans sE).trans sG) nt2
    refine ⟨p, tE, t2, "place", _, rfl, (N5.o2).mono (Bx.of sQ5), (Same.laid nt2) _ _ eG, upd_same, fun C6 sC => ?_⟩
    have M6 := N5.next np (LamX.ExtN.refl _) N5.tb (sQ5.trans sC)
    have K6 : Bx p C0 C6 := (K5.trans (Bx.ext ex5)).trans (Bx.of (sQ5.trans sC))
    clear sQ5 sC eG sG eE nE sE
    refine ⟨_, rfl, ifN rfl ?_⟩
    -- check 7
    refine ⟨by rw [hT1]; exact M6.tb, fun X6 ex6 tb6 => ?_⟩
    rw [hT1] at tb6
    have N6 := M6.next np ex6 tb6 (Same.refl _)
    obtain ⟨dR, eR2⟩ := id N6.pl
    obtain ⟨tt, ty, ht, _⟩ := N6.o1.nop (T := T)
    refine ⟨_, rfl, _, rfl, r, dR, _, tt, rfl, eR2, ty, rt_of T ht, r, o1, _, _, _, rfl, N6.pl, .inr ⟨N6.o1.nop, fun dE HE sE nE eE => .inr ⟨rfl, dE, _, rfl, eE, fun tE GE sG eG => ?_⟩⟩⟩
    refine ⟨_, rfl, (by show 2 ≤ sizeLine; decide), fun t2 nt2 => ?_⟩
    have sQ6 : Same X6 (upd GE t2 (.tup [.str "place", o1])) := Same.after ((sE).trans sG) nt2
    refine ⟨p, tE, t2, "place", _, rfl, (N6.o1).mono (Bx.of sQ6), (Same.laid nt2) _ _ eG, upd_same, fun C7 sC => ?_⟩
    have M7 := N6.next np (LamX.ExtN.refl _) N6.tb (sQ6.trans sC)
    have K7 : Bx p C0 C7 := (K6.trans (Bx.ext ex6)).trans (Bx.of (sQ6.trans sC))
    clear sQ6 sC eG sG eE nE sE
    refine ⟨_, rfl, ifN rfl ?_⟩
    -- != and == with each odd value and the tuple of its numbers
    obtain ⟨dR, eR2⟩ := id M7.pl
    have pC : C7 p ≠ none := M7.pen.some
    refine ⟨_, rfl, _, rfl, r, _, dR, _, _, rfl, eR2, T.cl_Place, T.na_Place_x, rfl, _, rfl, r, _, dR, _, _, rfl, eR2, T.cl_Place, T.na_Place_y, rfl, _, rfl, r, _, dR, _, _, rfl, eR2, T.cl_Place, T.na_Place_area, rfl, (by show 3 ≤ sizeLine; decide), fun tq ntq => ?_⟩
    refine ⟨(by show 1 ≤ sizeLine; decide), fun lq nlq => ?_⟩
    have u1 : Same C7 (upd C7 tq (.tup [.int g.x, .int g.y, .int g.a])) := Same.laid ntq
    have u2 := Same.after (o := .lst [.ref tq]) u1 nlq
    have ql : upd (upd C7 tq (.tup [.int g.x, .int g.y, .int g.a])) lq (.lst [.ref tq]) lo = some (.lst os) := u2 _ _ (K7 _ _ m4 hlo2 (fun _ z => nomatch z))
    refine ⟨lo, lq, os, [.ref tq], rfl, rfl, ql, upd_same, (by rw [hol]; show 8 ≤ sizeLine; decide), fun la nla => ?_⟩
    have u3 := Same.after (o := .lst (os ++ [.ref tq])) u2 nla
    have qt : upd (upd (upd C7 tq (.tup [.int g.x, .int g.y, .int g.a])) lq (.lst [.ref tq])) la (.lst (os ++ [.ref tq])) tq = some (.tup [.int g.x, .int g.y, .int g.a]) :=
      (Same.laid nla) _ _ ((Same.laid nlq) _ _ upd_same)
    have qa : upd (upd (upd C7 tq (.tup [.int g.x, .int g.y, .int g.a])) lq (.lst [.ref tq])) la (.lst (os ++ [.ref tq])) la = some (.lst (os ++ [.ref tq])) := upd_same
    generalize upd (upd (upd C7 tq (.tup [.int g.x, .int g.y, .int g.a])) lq (.lst [.ref tq])) la (.lst (os ++ [.ref tq])) = C8 at u3 qt qa ⊢
    have ntp : tq ≠ p := fun z => pC (by rw [← z]; exact ntq)
    have hle : (os ++ [V.ref tq]).length = 8 := by rw [List.length_append, hol]; rfl
    refine ⟨la, rfl, ⟨_, SqL.of qa⟩, fun D nD => ?_⟩
    refine lc_list (xs := os ++ [.ref tq]) (fun i G => Same C8 G ∧ G D = some (.lst (List.replicate i (.bl true)))) ⟨Same.laid nD, upd_same⟩ (fun i G _ z => SqL.of (z.1 _ _ qa)) (fun i x G hi z => ?_) (fun G z => ?_)
    · obtain ⟨z1, z2⟩ := z
      have il : i < 8 := by have := (List.getElem?_eq_some_iff.mp hi).1; omega
      have u4 : Same C7 G := u3.trans z1
      have ox : Odd p G x := by
        rcases List.mem_append.mp (List.mem_of_getElem? hi) with h | h
        · exact ((hall x h).mono K7).mono (Bx.of u4)
        · rw [List.mem_singleton.mp h]
          exact .tup (z1 _ _ qt) ntp
      have pg : PG' T G r g := M7.pl.mono u4
      refine ⟨rfl, ?_⟩
      refine ⟨_, rfl, _, rfl, eq_o T (f := not) pg ox.nop ⟨true, rfl, iteT ?_⟩⟩
      refine ⟨_, rfl, _, rfl, eq_o T (f := id) pg ox.nop ⟨false, rfl, ?_⟩⟩
      have dn : D ≠ D → False := fun h => h rfl
      refine ⟨_, z2, ?_, ?_, ?_⟩
      · rw [List.length_replicate]
        have : 8 < sizeLine := by decide
        omega
      · intro b o h
        have nb : b ≠ D := by
          intro e
          rw [e, nD] at h
          cases h
        rw [upd_ne nb]
        exact z1 _ _ h
      · rw [upd_same, List.replicate_succ']
        rfl
    · obtain ⟨z1, z2⟩ := z
      have u4 : Same C7 G := u3.trans z1
      refine ⟨D, List.replicate 8 true, rfl, ?_, ?_⟩
      · rw [List.map_replicate]
        rw [hle] at z2
        exact SqL.of z2
      · have e : (List.replicate 8 true).all id = true := by decide
        rw [e]
        exact k G (M7.bx.trans (Bx.of u4)) (tabs_same M7.tb u4) (M7.pen.mono (Int.le_refl _) u4)
end
end AW

set_option linter.all false
set_option maxRecDepth 100000
set_option maxHeartbeats 16000000
namespace AW
open PySem PySem.Spec PyProof.Rows L2
section
variable {P : Program} {w : World} {K : PySem.W.Frag} {mg : Str → Option Value} {base : Heap}
/-- Place(area = .., y = .., x = ..) -/
def gK {α : Type} (us ws : List α) : List α := match us, ws with
  | [s], [a, y, x] => [s, x, y, a]
  | _, _ => us
theorem kb_Place (T : Tx K mg) : KBn K T.d_Place_init P_Place_init 1 ["area", "y", "x"] gK gK := by
  obtain ⟨oc, od, kV, doc, pm, an, cdv, ct, osl, e, lk, hcd⟩ := T.F_Place_init.ex
  rw [e]
  refine ⟨fun s us ws hin l1 l2 => ?_, fun {vs us zs ws} r1 r2 => ?_⟩
  · match us, l1, ws, l2 with
    | [a], _, [b, c, d], _ => exact BindsTo.of_eq rfl
  · cases r1 with
    | nil => exact .nil
    | cons h t =>
      cases t with
      | cons h2 t2 => exact .cons h (.cons h2 t2)
      | nil =>
        cases r2 with
        | nil => exact .cons h .nil
        | cons a r => cases r with
          | nil => exact .cons h .nil
          | cons b r => cases r with
            | nil => exact .cons h .nil
            | cons c r => cases r with
              | nil => exact .cons h (.cons c (.cons b (.cons a .nil)))
              | cons d r => exact .cons h .nil
theorem tabs_but {T1 : List (Addr × Str)} {H H' : Hp} {p : Addr} {B : Int} (hp : Pen H p B) (t : LamX.Tabs T1 H) (b : But p H H') : LamX.Tabs T1 H' := by
  intro q hq
  obtain ⟨ps, h1, h2, h3⟩ := t q hq
  obtain ⟨c, ns, st, rr, e1, _⟩ := hp.at_
  refine ⟨ps, b.st _ _ (ne_of h1 e1 (by intro z; cases z)) h1, h2, fun pos cv hc => ?_⟩
  obtain ⟨c, e1', e2⟩ := h3 pos cv hc
  exact ⟨c, e1', b.st _ _ (ne_of e2 e1 (by intro z; cases z)) e2⟩
theorem ltr_of : ∀ c ∈ ("ewns" : Str).cps.toList, Ltr ⟨#[c]⟩ := by
  intro c hc
  have e : ("ewns" : Str).cps.toList = [101, 119, 110, 115] := by decide +kernel
  rw [e] at hc
  simp only [List.mem_cons, List.mem_nil_iff, or_false] at hc
  rcases hc with rfl | rfl | rfl | rfl
  · exact .inl (by decide +kernel)
  · exact .inr (.inl (by decide +kernel))
  · exact .inr (.inr (.inl (by decide +kernel)))
  · exact .inr (.inr (.inr (by decide +kernel)))
theorem eqv3 (x y a : Int) : PyData.eqv (.tuple [.int x, .int y, .int a]) (.tuple [.int x, .int y, .int a]) = true := by simp [PyData.eqv, PyData.eqvAll]
theorem home_iff (g : G) : decide (g.x = 0 ∧ g.y = 0 ∧ g.a = 0) = decide (g = G.one) := by
  by_cases h : g = G.one
  · subst h; rfl
  · rw [decide_eq_false h]
    exact decide_eq_false fun ⟨h1, h2, h3⟩ => h (G.ext h1 h2 h3)
theorem bg5 : Bg 400 ⟨0, 0, 5⟩ := ⟨(by show (0 : Int).natAbs < 2 ^ 400; exact Nat.pow_pos (by decide)), (by show (0 : Int).natAbs < 2 ^ 400; exact Nat.pow_pos (by decide)), (by have h : Bd 3 5 := (by show (5 : Int).natAbs < 2 ^ 3; decide); exact h.mono (by decide))⟩
theorem PG'.but {T : Tx K mg} {H H' : Hp} {p r : Addr} {g : G} {B : Int} (h : PG' T H r g) (hp : Pen H p B) (b : But p H H') : PG' T H' r g := by
  obtain ⟨c, ns, st, rr, e1, _⟩ := hp.at_
  obtain ⟨dx, e2⟩ := h
  exact ⟨dx, b.st _ _ (ne_of e2 e1 (by intro z; cases z)) e2⟩
theorem PG'.ne {T : Tx K mg} {H : Hp} {p r : Addr} {g : G} {B : Int} (h : PG' T H r g) (hp : Pen H p B) : r ≠ p := by
  obtain ⟨c, ns, st, rr, e1, _⟩ := hp.at_
  obtain ⟨dx, e2⟩ := h
  exact ne_of e2 e1 (by intro z; cases z)
theorem PG'.put {T : Tx K mg} {H : Hp} {q D : Addr} {g : G} {l l' : List V} (h : PG' T H q g) (e : H D = some (.lst l)) : PG' T (upd H D (.lst l')) q g := by
  obtain ⟨dx, e1⟩ := h
  exact ⟨dx, by rw [upd_ne (ne_of e1 e (by intro z; cases z))]; exact e1⟩
theorem Pls.put {T : Tx K mg} {H : Hp} {D : Addr} {l l' xs : List V} {gs : List G} (h : Pls T H xs gs) (e : H D = some (.lst l)) : Pls T (upd H D (.lst l')) xs gs :=
  ⟨h.1, fun i v g h1 h2 => let ⟨q, e1, p1⟩ := h.2 i v g h1 h2; ⟨q, e1, PG'.put p1 e⟩⟩
theorem stG_bd {z : Str} (h : Ltr z) : Bd 100000 (stG z).x ∧ Bd BIG (stG z).y := by
  have o : ∀ {k : Nat}, 1 ≤ k → Bd k 1 ∧ Bd k (-1) ∧ Bd k 0 := fun hk => ⟨Bd.one hk, (Bd.one hk).neg, by show 0 < 2 ^ _; exact Nat.pow_pos (by decide)⟩
  have o1 := o (k := 100000) (by decide)
  have o2 := o (k := BIG) (by decide)
  rcases h with rfl | rfl | rfl | rfl
  · rw [stG_e]; exact ⟨o1.1, o2.2.2⟩
  · rw [stG_w]; exact ⟨o1.2.1, o2.2.2⟩
  · rw [stG_n]; exact ⟨o1.2.2, o2.1⟩
  · rw [stG_s]; exact ⟨o1.2.2, o2.2.1⟩
theorem bd50 {n : Int} (h : n = 3 ∨ n = 10 ^ (50 : Int).toNat) : 0 ≤ n ∧ Bd 200 n ∧ Bd 400 (n * n) := by
  have b : Bd 200 n := by
    rcases h with rfl | rfl
    · show (3 : Int).natAbs < 2 ^ 200; decide
    · show ((10 : Int) ^ (50 : Int).toNat).natAbs < 2 ^ 200; decide
  exact ⟨by rcases h with rfl | rfl <;> decide, b, b.mul b⟩
theorem place_bg {n : Int} {g : G} (h : n = 3 ∨ n = 10 ^ (50 : Int).toNat) (h1 : -n ≤ g.x ∧ g.x ≤ n) (h2 : -n ≤ g.y ∧ g.y ≤ n) (h3 : -(n * n) ≤ g.a ∧ g.a ≤ n * n) : Bg 400 g := by
  obtain ⟨_, b1, b2⟩ := bd50 h
  exact ⟨(bd_le h1.1 h1.2 b1).mono (by decide), (bd_le h2.1 h2.2 b1).mono (by decide), bd_le h3.1 h3.2 b2⟩
theorem ne_of_none' {H : Hp} {p q : Addr} {o : HO} (h : H q = some o) (n : H p = none) : p ≠ q := fun e => by rw [e, h] at n; cases n
def sp_law (T : Tx K mg) : Sp := fun vs H Q E => ∃ (a : Addr) (ns : List Int), vs = [.ref a] ∧ SqL K H a (ns.map V.int) ∧ ns.length ≤ 63 ∧ LamX.Tabs (tabs1 T) H ∧ ∀ H', Q (.bl true) H'
theorem ok_law (T : Tx K mg) (TB : LamX.TabB base mg T.cc_l_refusals_right T.pt_l_refusals_right) : FnOk P w K mg base (L2.CX P w) 15 T.a_law T.d_law P_law (sp_law T) := by
  have G_l_pen : FnOk P w K mg base (L2.CX P w) 1 _ _ _ _ := ok_l_pen T
  have G_l_draw : FnOk P w K mg base (L2.CX P w) 1 _ _ _ _ := ok_l_draw T
  have G_l_pick : FnOk P w K mg base (L2.CX P w) 2 _ _ _ _ := ok_l_pick T
  have G_l_place : FnOk P w K mg base (L2.CX P w) 6 _ _ _ _ := ok_l_place T
  have G_l_step : FnOk P w K mg base (L2.CX P w) 6 _ _ _ _ := ok_l_step T
  have G_l_swept : FnOk P w K mg base (L2.CX P w) 1 _ _ _ _ := ok_l_swept T
  have G_l_powers_right : FnOk P w K mg base (L2.CX P w) 9 _ _ _ _ := ok_l_powers_right T
  have G_l_refusals_right : FnOk P w K mg base (L2.CX P w) 14 _ _ _ _ := ok_l_refusals_right T TB
  have G_Place_init : FnOk P w K mg base (L2.CX P w) 4 _ _ _ _ := ok_Place_init T
  have G_Place_lifted : FnOk P w K mg base (L2.CX P w) 6 _ _ _ _ := ok_Place_lifted T
  have G_Place_twist : FnOk P w K mg base (L2.CX P w) 6 _ _ _ _ := ok_Place_twist T
  have G_Place_is_home : FnOk P w K mg base (L2.CX P w) 1 _ _ _ _ := ok_Place_is_home T
  have G_Place_mul : FnOk P w K mg base (L2.CX P w) 6 _ _ _ _ := ok_Place_mul T
  have G_Place_invert : FnOk P w K mg base (L2.CX P w) 6 _ _ _ _ := ok_Place_invert T
  have G_Place_eq : FnOk P w K mg base (L2.CX P w) 1 _ _ _ _ := ok_Place_eq T
  have G_product_of : FnOk P w K mg base (L2.CX P w) 8 _ _ _ _ := ok_product_of T
  have G_home_place : FnOk P w K mg base (L2.CX P w) 6 _ _ _ _ := ok_home_place T
  have kb_Place_init := kb_Place T
  refine T.F_law.okX sc_law (fun vs H Q E h => ?_) (fun cdv A outer s H vs Q E hr h => ?_)
  · obtain ⟨a, ns, rfl, _⟩ := h
    rfl
  · obtain ⟨a, ns, rfl, hs, hn, htb, k⟩ := h
    have hu := hu_of hr
    refine ⟨_, (pss_cons (ps_set (i := 1) sc_law.nd rfl (.inr rfl) (pe_call G_l_pen (hr.mono (by decide)) (by rfl) T.g_l_pen T.F_l_pen.kp T.b_l_pen .nil passL (pa_cons (pv 0) pa_nil)))
 (pss_cons (ps_for (passes_of rfl) rfl (pi_range1 (by rfl) T.n_range (pa_cons (pe_op op_add pe_int (pe_callB (call_min2 rfl) (by rfl) T.n_min (by decide +kernel) (pa_cons pe_int (pa_cons (pe_callB call_len_seq (by rfl) T.n_len (by decide +kernel) (pa_cons (pv 0) pa_nil)) pa_nil)))) pa_nil)) (pg_name (i := 2) sc_law.nd rfl (.inl rfl))
 (pss_cons (ps_setLc (i := 3) (own := [("_law_k", 9)]) (g := gName 9) (by rfl) sc_law.nd rfl rfl (sw_true rfl rfl rfl (by decide +kernel)) (pi_range1 (by rfl) T.n_range (pa_cons (pe_call G_l_draw (hr.mono (by decide)) (by rfl) T.g_l_draw T.F_l_draw.kp T.b_l_draw .nil passL (pa_cons (pv 1) (pa_cons pe_int pa_nil))) pa_nil)) (blkOk_by (own := [("_law_k", 9)]) (N := N_law) (sc := defScope s_law) (by decide +kernel)) (fun _ _ _ _ _ => pg_name (i := 9) sc_law.nd rfl (Or.inl rfl)) (fun _ _ _ _ _ => pts_nil) (fun _ _ _ _ _ => (pe_call G_l_pick (hr.mono (by decide)) (by rfl) T.g_l_pick T.F_l_pick.kp T.b_l_pick .nil passL (pa_cons (pv 1) (pa_cons pe_str pa_nil)))))
 (pss_cons (ps_set (i := 4) sc_law.nd rfl (.inl rfl) (pe_call G_product_of (hr.mono (by decide)) (by rfl) T.g_product_of T.F_product_of.kp T.b_product_of .nil passL (pa_cons (pe_lc (own := [("_law_letter", 10)]) (g := gName 10) (by rfl) sc_law.nd (pi_list (pv 3)) (blkOk_by (own := [("_law_letter", 10)]) (N := N_law) (sc := defScope s_law) (by decide +kernel)) (fun _ _ _ _ _ => pg_name (i := 10) sc_law.nd rfl (Or.inl rfl)) (fun _ _ _ _ _ => pts_nil) (fun _ _ _ _ _ => (pe_call G_l_step (hr.mono (by decide)) (by rfl) T.g_l_step T.F_l_step.kp T.b_l_step .nil passL (pa_cons (pv 10) pa_nil)))) pa_nil)))
 (pss_cons (ps_if (pt_cmpR (op_neD hr.units) (pe_tup (pa_cons (pe_fld (pv 4) rfl) (pa_cons (pe_fld (pv 4) rfl) (pa_cons (pe_fld (pv 4) rfl) pa_nil)))) (pe_call G_l_swept (hr.mono (by decide)) (by rfl) T.g_l_swept T.F_l_swept.kp T.b_l_swept .nil passL (pa_cons (pv 3) pa_nil)) (nomark _))
 (pss_one (ps_ret pe_bl))
 pss_nil)
 (pss_cons (ps_set (i := 5) sc_law.nd rfl (.inl rfl) (pe_call G_l_pick (hr.mono (by decide)) (by rfl) T.g_l_pick T.F_l_pick.kp T.b_l_pick .nil passL (pa_cons (pv 1) (pa_cons (pe_lst (pa_cons pe_int (pa_cons (pe_op op_pow pe_int pe_int) pa_nil))) pa_nil))))
 (pss_cons (ps_par3 (i := 6) (j := 7) (l := 8) (by rfl) sc_law.nd rfl rfl rfl (by decide) (by decide) (by decide) rfl rfl rfl (pa_cons (pe_call G_l_place (hr.mono (by decide)) (by rfl) T.g_l_place T.F_l_place.kp T.b_l_place .nil passL (pa_cons (pv 1) (pa_cons (pv 5) pa_nil))) (pa_cons (pe_call G_l_place (hr.mono (by decide)) (by rfl) T.g_l_place T.F_l_place.kp T.b_l_place .nil passL (pa_cons (pv 1) (pa_cons (pv 5) pa_nil))) (pa_cons (pe_call G_l_place (hr.mono (by decide)) (by rfl) T.g_l_place T.F_l_place.kp T.b_l_place .nil passL (pa_cons (pv 1) (pa_cons (pv 5) pa_nil))) pa_nil))) (by rfl))
 (pss_cons (ps_if (PW.pt (pw_or (pt_cmpR (op_neO T.E_Place G_Place_eq (hr.mono (by decide)) T.b_Place_eq passL) (pe_op (op_ownO T.O_Place_Mult G_Place_mul (hr.mono (by decide)) T.b_Place_mul passL) (pe_op (op_ownO T.O_Place_Mult G_Place_mul (hr.mono (by decide)) T.b_Place_mul passL) (pv 6) (pv 7)) (pv 8)) (pe_op (op_ownO T.O_Place_Mult G_Place_mul (hr.mono (by decide)) T.b_Place_mul passL) (pv 6) (pe_op (op_ownO T.O_Place_Mult G_Place_mul (hr.mono (by decide)) T.b_Place_mul passL) (pv 7) (pv 8))) (nomark _)) (pw_or (pt_cmpR (op_neO T.E_Place G_Place_eq (hr.mono (by decide)) T.b_Place_eq passL) (pe_op (op_ownO T.O_Place_Mult G_Place_mul (hr.mono (by decide)) T.b_Place_mul passL) (pv 6) (pe_un (un_invO T.m_Place_invert T.i_Place_invert G_Place_invert (hr.mono (by decide)) T.b_Place_invert passL) (pv 6))) (pe_call0 G_home_place (hr.mono (by decide)) (by rfl) T.g_home_place T.F_home_place.kp T.b_home_place .nil passL) (nomark _)) (pw_or1 (pt_cmpR (op_neO T.E_Place G_Place_eq (hr.mono (by decide)) T.b_Place_eq passL) (pe_op (op_ownO T.O_Place_Mult G_Place_mul (hr.mono (by decide)) T.b_Place_mul passL) (pe_un (un_invO T.m_Place_invert T.i_Place_invert G_Place_invert (hr.mono (by decide)) T.b_Place_invert passL) (pv 6)) (pv 6)) (pe_call0 G_home_place (hr.mono (by decide)) (by rfl) T.g_home_place T.F_home_place.kp T.b_home_place .nil passL) (nomark _))))))
 (pss_one (ps_ret pe_bl))
 pss_nil)
 (pss_cons (ps_if (PW.pt (pw_or (pt_cmpR (op_neO T.E_Place G_Place_eq (hr.mono (by decide)) T.b_Place_eq passL) (pe_un (un_invO T.m_Place_invert T.i_Place_invert G_Place_invert (hr.mono (by decide)) T.b_Place_invert passL) (pe_op (op_ownO T.O_Place_Mult G_Place_mul (hr.mono (by decide)) T.b_Place_mul passL) (pv 6) (pv 7))) (pe_op (op_ownO T.O_Place_Mult G_Place_mul (hr.mono (by decide)) T.b_Place_mul passL) (pe_un (un_invO T.m_Place_invert T.i_Place_invert G_Place_invert (hr.mono (by decide)) T.b_Place_invert passL) (pv 7)) (pe_un (un_invO T.m_Place_invert T.i_Place_invert G_Place_invert (hr.mono (by decide)) T.b_Place_invert passL) (pv 6))) (nomark _)) (pw_or (pt_not (pt_val (pe_meth0 (pe_call0 G_home_place (hr.mono (by decide)) (by rfl) T.g_home_place T.F_home_place.kp T.b_home_place .nil passL) T.cl_Place T.M_Place_is_home G_Place_is_home (hr.mono (by decide)) T.b_Place_is_home .nil passL))) (pw_or1 (pt_cmpR op_ne (pe_meth0 (pv 6) T.cl_Place T.M_Place_is_home G_Place_is_home (hr.mono (by decide)) T.b_Place_is_home .nil passL) (pe_cmpR (op_eqO T.E_Place G_Place_eq (hr.mono (by decide)) T.b_Place_eq passL) (pv 6) (pe_call0 G_home_place (hr.mono (by decide)) (by rfl) T.g_home_place T.F_home_place.kp T.b_home_place .nil passL) (nomark _)) (nomark _))))))
 (pss_one (ps_ret pe_bl))
 pss_nil)
 (pss_cons (ps_if (PW.pt (pw_or (pt_cmpR (op_neO T.E_Place G_Place_eq (hr.mono (by decide)) T.b_Place_eq passL) (pe_op (op_ownO T.O_Place_Mult G_Place_mul (hr.mono (by decide)) T.b_Place_mul passL) (pv 6) (pv 7)) (pe_meth (pe_op (op_ownO T.O_Place_Mult G_Place_mul (hr.mono (by decide)) T.b_Place_mul passL) (pv 7) (pv 6)) T.cl_Place T.M_Place_lifted G_Place_lifted (hr.mono (by decide)) T.b_Place_lifted .nil passL (pa_cons (pe_meth (pv 6) T.cl_Place T.M_Place_twist G_Place_twist (hr.mono (by decide)) T.b_Place_twist .nil passL (pa_cons (pv 7) pa_nil)) pa_nil)) (nomark _)) (pw_or1 (pt_cmpR (op_neO T.E_Place G_Place_eq (hr.mono (by decide)) T.b_Place_eq passL) (pe_meth (pv 6) T.cl_Place T.M_Place_lifted G_Place_lifted (hr.mono (by decide)) T.b_Place_lifted .nil passL (pa_cons pe_int pa_nil)) (pe_op (op_ownO T.O_Place_Mult G_Place_mul (hr.mono (by decide)) T.b_Place_mul passL) (pv 6) (pe_make T.M_Place G_Place_init (hr.mono (by decide)) (by rfl) T.g_C_Place T.b_Place_init .nil passL (pa_cons pe_int (pa_cons pe_int (pa_cons pe_int pa_nil))))) (nomark _)))))
 (pss_one (ps_ret pe_bl))
 pss_nil)
 (pss_cons (ps_if (PW.pt (pw_or (pt_not (pt_val (pe_call G_l_powers_right (hr.mono (by decide)) (by rfl) T.g_l_powers_right T.F_l_powers_right.kp T.b_l_powers_right .nil passL (pa_cons (pv 1) (pa_cons (pv 6) pa_nil))))) (pw_or1 (pt_not (pt_val (pe_call G_l_refusals_right (hr.mono (by decide)) (by rfl) T.g_l_refusals_right T.F_l_refusals_right.kp T.b_l_refusals_right .nil passL (pa_cons (pv 1) (pa_cons (pv 7) pa_nil))))))))
 (pss_one (ps_ret pe_bl))
 pss_nil)
 (pss_one (ps_if (PW.pt (pw_or (pt_cmpR (op_neO T.E_Place G_Place_eq (hr.mono (by decide)) T.b_Place_eq passL) (pe_make T.M_Place G_Place_init (hr.mono (by decide)) (by rfl) T.g_C_Place T.b_Place_init .nil passL (pa_cons (pe_fld (pv 6) rfl) (pa_cons (pe_fld (pv 6) rfl) (pa_cons (pe_fld (pv 6) rfl) pa_nil)))) (pv 6) (nomark _)) (pw_or1 (pt_cmpR (op_neO T.E_Place G_Place_eq (hr.mono (by decide)) T.b_Place_eq passL) (pe_makeK0 T.M_Place G_Place_init (hr.mono (by decide)) (by rfl) T.g_C_Place kb_Place_init passL (pk_cons pe_int (pk_cons pe_int (pk_cons pe_int pk_nil)))) (pe_make T.M_Place G_Place_init (hr.mono (by decide)) (by rfl) T.g_C_Place T.b_Place_init .nil passL (pa_cons pe_int (pa_cons pe_int (pa_cons pe_int pa_nil)))) (nomark _)))))
 (pss_one (ps_ret pe_bl))
 pss_nil))))))))))))
 (pss_one (ps_ret pe_bl)))), ?_⟩
    refine ⟨_, rfl, a, ns, rfl, hs, hn, fun p H1 s1 np q1 => ?_⟩
    have tb1 : LamX.Tabs (tabs1 T) H1 := tabs_same htb s1
    refine ⟨_, rfl, a, _, rfl, .inl (hs.ext s1), _, _, rfl, _, _, rfl, rfl, _, rfl, ?_⟩
    rw [List.length_map]
    have hN : 0 ≤ (3 : Int) + (if ((ns.length : Nat) : Int) < 6 then ((ns.length : Nat) : Int) else 6) ∧ (3 : Int) + (if ((ns.length : Nat) : Int) < 6 then ((ns.length : Nat) : Int) else 6) ≤ 9 := by split <;> omega
    generalize (3 : Int) + (if ((ns.length : Nat) : Int) < 6 then ((ns.length : Nat) : Int) else 6) = N at hN ⊢
    refine ⟨by omega, by omega, for_range (n := N.toNat) (fun i σ G => (∃ v2 v3 v4 v5 v6 v7 v8 v9 v10, σ = [some (.ref a), some (.ref p), v2, v3, v4, v5, v6, v7, v8, v9, v10]) ∧ Pen G p (1000 * i) ∧ LamX.Tabs (tabs1 T) G) ⟨⟨none, none, none, none, none, none, none, none, none, rfl⟩, (by simpa using q1), tb1⟩ ?_ ?_⟩
    case refine_2 => exact fun σ G _ => k G
    clear hs htb tb1 s1 q1
    rintro i σ Hl hi ⟨⟨v2, v3, v4, v5, v6, v7, v8, v9, v10, rfl⟩, hp, htb⟩
    have hB : (1000 * (i : Int)) ≤ 9000 := by omega
    generalize hBi : 1000 * (i : Int) = B at hB hp
    -- the letters
    refine ⟨_, rfl, p, 40, B, rfl, by decide, by decide, hp, by omega, fun n H1 hn1 b1 q1 => ⟨n, rfl, by omega, by omega, fun D nD => ?_⟩⟩
    obtain ⟨c0, ns0, st0, rr0, ep0, ec0, _⟩ := id q1.at_
    have nDp : D ≠ p := ne_of_none' ep0 nD
    have nDc : D ≠ c0 := ne_of_none' ec0 nD
    have u1 : Same H1 (upd H1 D (.lst [])) := Same.laid nD
    refine lc_range (n := n.toNat) (fun j G' => ∃ zs : List Str, zs.length = j ∧ (∀ z ∈ zs, Ltr z) ∧ G' D = some (.lst (zs.map V.str)) ∧ Pen G' p (B + 1 + j) ∧ But p H1 G')
      ⟨[], rfl, (fun z hz => by cases hz), upd_same, q1.mono (by omega) u1, But.of u1⟩ ?_ ?_
    · rintro j G' hj ⟨zs, hl, hz, hD, hq, hb⟩
      refine ⟨rfl, ?_⟩
      refine ⟨_, rfl, p, .str "ewns", _, rfl, hq, by omega, .inr ⟨"ewns", rfl, by decide +kernel, by decide +kernel, fun c G2 hc b2 q2 => ?_⟩⟩
      have hD2 := b2.st _ _ nDp hD
      have b12 := hb.trans b2
      refine ⟨_, hD2, ?_, zs ++ [⟨#[c]⟩], ?_, ?_, ?_, ?_, ?_⟩
      · rw [List.length_map, hl]
        have : (40 : Nat) < sizeLine := by decide
        omega
      · rw [List.length_append, hl]; rfl
      · intro z hz'
        rcases List.mem_append.mp hz' with h | h
        · exact hz z h
        · rw [List.mem_singleton.mp h]
          exact ltr_of c hc
      · rw [upd_same, List.map_append]; rfl
      · obtain ⟨c1, ns1, st1, rr1, ep1, ec1, l1, l2, l3⟩ := q2.at_
        obtain ⟨st2, rr2, ep2⟩ := b12.cl _ _ _ ep0
        rw [ep1] at ep2
        injection ep2 with ep2
        injection ep2 with ep2
        have e := penD_inj ep2
        subst e
        exact ⟨⟨c1, ns1, st1, rr1, by rw [upd_ne nDp.symm]; exact ep1, by rw [upd_ne nDc.symm]; exact ec1, l1, l2, by omega⟩⟩
      · refine ⟨fun b o nb h => ?_, fun c z r h => ?_⟩
        · have e : b ≠ D := fun e => by rw [e, nD] at h; cases h
          rw [upd_ne e]
          exact b12.st b o nb h
        · obtain ⟨z1, r1, h1⟩ := b12.cl c z r h
          exact ⟨z1, r1, by rw [upd_ne nDp.symm]; exact h1⟩
    · rintro H2 ⟨zs, hl, hz, hD, q2, b2⟩
      have b02 := b1.trans b2
      have tb2 := tabs_but hp htb b02
      have hlen : zs.length ≤ 40 := by omega
      have B2 : B + 1 + n.toNat ≤ B + 41 := by omega
      have q2 := q2.le B2
      clear b1 b2 u1 q1 hp htb ep0 ec0 hn1 nD nDc
      -- product_of([step(letter) for letter in letters])
      refine ⟨_, rfl, D, rfl, ⟨_, SqL.of hD⟩, fun D2 nD2 => ?_⟩
      refine lc_list (xs := zs.map V.str) (fun j G' => ∃ rs : List V, Same H2 G' ∧ G' D2 = some (.lst rs) ∧ Pls T G' rs ((zs.take j).map stG)) ⟨[], Same.laid nD2, upd_same, Pls.nil⟩ (fun j G' _ ⟨rs, z1, _⟩ => SqL.of (z1 _ _ hD)) ?_ ?_
      · rintro j x G' hj ⟨rs, z1, z2, z3⟩
        obtain ⟨z, hj', rfl⟩ := map_get hj
        have jl : j < zs.length := (List.getElem?_eq_some_iff.mp hj').1
        refine ⟨rfl, ?_⟩
        refine ⟨_, rfl, z, rfl, hz z (List.mem_of_getElem? hj'), fun r G2 s2 n2 p2 => ?_⟩
        have p2 : PG' T G2 r (stG z) := p2
        have z2' := s2 _ _ z2
        refine ⟨rs, z2', ?_, rs ++ [.ref r], ?_, upd_same, ?_⟩
        · rw [z3.1, List.length_map, List.length_take]
          have : (40 : Nat) < sizeLine := by decide
          omega
        · intro b o h
          have nb : b ≠ D2 := fun e => by rw [e, nD2] at h; cases h
          rw [upd_ne nb]
          exact s2 _ _ (z1 _ _ h)
        · rw [take_snoc hj', List.map_append]
          exact ((z3.mono s2).snoc p2).put z2'
      rintro H3 ⟨rs, s3, e3, pls⟩
      rw [List.length_map, List.take_length] at pls
      refine ⟨D2, rs, zs.map stG, rfl, SqL.of e3, by rw [List.length_map]; omega, fun g hg => ?_, .inl ⟨pls, fun r0 H4 s4 n4 p4 => ?_⟩⟩
      · obtain ⟨z, h1, rfl⟩ := List.mem_map.mp hg
        exact stG_bd (hz z h1)
      have p4 : PG' T H4 r0 (G.prod (zs.map stG)) := p4
      have s24 := s3.trans s4
      have hD4 := s24 _ _ hD
      generalize hgg : G.prod (zs.map stG) = gg at p4
      clear pls s3 e3 s4 n4
      -- (led.x, led.y, led.area) != swept(letters)
      obtain ⟨d4, e4⟩ := id p4
      refine ⟨_, rfl, r0, _, d4, _, _, rfl, e4, T.cl_Place, T.na_Place_x, rfl, _, rfl, r0, _, d4, _, _, rfl, e4, T.cl_Place, T.na_Place_y, rfl, _, rfl, r0, _, d4, _, _, rfl, e4, T.cl_Place, T.na_Place_area, rfl, (by show 3 ≤ sizeLine; decide), fun tq ntq => ?_⟩
      have s5 : Same H4 (upd H4 tq (.tup [.int gg.x, .int gg.y, .int gg.a])) := Same.laid ntq
      have eq5 : upd H4 tq (.tup [.int gg.x, .int gg.y, .int gg.a]) tq = some (.tup [.int gg.x, .int gg.y, .int gg.a]) := upd_same
      generalize upd H4 tq (.tup [.int gg.x, .int gg.y, .int gg.a]) = H5 at s5 eq5 ⊢
      refine ⟨_, rfl, D, zs, rfl, s5 _ _ hD4, hz, fun t H6 s6 e6 => ?_⟩
      rw [hgg] at e6
      have dd : DpAll K H6 [.int gg.x, .int gg.y, .int gg.a] [.int gg.x, .int gg.y, .int gg.a] := .cons (.int _) (.cons (.int _) (.cons (.int _) .nil))
      refine ⟨.tuple [.int gg.x, .int gg.y, .int gg.a], .tuple [.int gg.x, .int gg.y, .int gg.a], .tup (SqT.of (s6 _ _ eq5)) dd, .tup (SqT.of e6) dd, rfl, rfl, _, rfl, ?_⟩
      refine ifN (by rw [eqv3]; rfl) ?_
      have s26 := (s24.trans s5).trans s6
      have b6 := b02.trans (But.of s26)
      have q6 := q2.mono (B' := B + 41) (by omega) s26
      have tb6 := tb2.ext s26
      clear dd e6 s6 eq5 s5 ntq e4 p4 hgg hD4 s24 hD q2 s26 tb2 b02
      -- the size and the three places
      have cp : CPow 10 50 := ⟨by decide, by decide, by decide⟩
      refine ⟨_, rfl, _, _, rfl, rfl, cp, (by show 2 ≤ sizeLine; decide), fun l nl => ?_⟩
      have b7 := b6.new (o := .lst [.int 3, .int (10 ^ (50 : Int).toNat)]) nl
      have q7 := q6.mono (Int.le_refl _) (Same.laid (o := .lst [.int 3, .int (10 ^ (50 : Int).toNat)]) nl)
      have tb7 := tb6.ext (Same.laid (o := .lst [.int 3, .int (10 ^ (50 : Int).toNat)]) nl)
      refine ⟨p, .ref l, _, rfl, q7, by omega, .inl ⟨l, _, rfl, upd_same, by decide, by decide, fun v H8 hv b8 q8 => ?_⟩⟩
      obtain ⟨n, rfl, hn⟩ : ∃ n : Int, v = .int n ∧ (n = 3 ∨ n = 10 ^ (50 : Int).toNat) := by
        simp only [List.mem_cons, List.mem_nil_iff, or_false] at hv
        rcases hv with rfl | rfl
        · exact ⟨3, rfl, .inl rfl⟩
        · exact ⟨_, rfl, .inr rfl⟩
      obtain ⟨n0, nb, _⟩ := bd50 hn
      have nb := nb.mono (show 200 ≤ 1000 by decide)
      have tb8 := tabs_but q7 tb7 b8
      refine ⟨_, rfl, _, rfl, p, n, _, rfl, n0, nb, q8, by omega, fun r1 H9 g1 b9 f9 p1 o1 q9 => ?_⟩
      have tb9 := tabs_but q8 tb8 b9
      refine ⟨_, rfl, _, rfl, p, n, _, rfl, n0, nb, q9, by omega, fun r2 H10 g2 b10 f10 p2 o2 q10 => ?_⟩
      have tb10 := tabs_but q9 tb9 b10
      refine ⟨_, rfl, _, rfl, p, n, _, rfl, n0, nb, q10, by omega, fun r3 H11 g3 b11 f11 p3 o3 q11 => ?_⟩
      have tb11 := tabs_but q10 tb10 b11
      have P1 : PG' T H11 r1 g1 := (PG'.but p1 q9 b10).but q10 b11
      have P2 : PG' T H11 r2 g2 := PG'.but p2 q10 b11
      have P3 : PG' T H11 r3 g3 := p3
      have bA : But p Hl H11 := ((((b7.trans b8).trans b9).trans b10).trans b11)
      have B1 := place_bg hn o1.1 o1.2.1 o1.2.2
      have B2 := place_bg hn o2.1 o2.2.1 o2.2.2
      have B3 := place_bg hn o3.1 o3.2.1 o3.2.2
      have SA : Same H11 H11 := Same.refl _
      clear p1 p2 p3 b7 b8 b9 b10 b11 q6 q7 q8 q9 q10 tb6 tb7 tb8 tb9 tb10 b6
      refine ⟨_, _, _, rfl, ?_⟩
      -- A
      refine ⟨_, rfl, _, rfl, mul_g T (g := g1) (h := g2) P1 P2 (B1.1.mono (by decide)) (B2.2.1.mono (by decide)) fun a1 A1 t1 n1 m1 => ?_⟩
      have m1 : PG' T A1 a1 (g1.mul g2) := m1
      have P1 := P1.mono t1
      have P2 := P2.mono t1
      have P3 := P3.mono t1
      have SA := SA.trans t1
      have E3 := mul_bg (B1.mono (show 400 ≤ 400 by decide)) (B2.mono (show 400 ≤ 400 by decide))
      refine ⟨_, rfl, mul_g T (g := g1.mul g2) (h := g3) m1 P3 (E3.1.mono (by decide)) (B3.2.1.mono (by decide)) fun a2 A2 t2 n2 m2 => ?_⟩
      have m2 : PG' T A2 a2 ((g1.mul g2).mul g3) := m2
      have P1 := P1.mono t2
      have P2 := P2.mono t2
      have P3 := P3.mono t2
      have m1 := m1.mono t2
      have SA := SA.trans t2
      have E4 := mul_bg (E3.mono (show 802 ≤ 802 by decide)) (B3.mono (show 400 ≤ 802 by decide))
      refine ⟨_, rfl, _, rfl, _, rfl, mul_g T (g := g2) (h := g3) P2 P3 (B2.1.mono (by decide)) (B3.2.1.mono (by decide)) fun a3 A3 t3 n3 m3 => ?_⟩
      have m3 : PG' T A3 a3 (g2.mul g3) := m3
      have P1 := P1.mono t3
      have P2 := P2.mono t3
      have P3 := P3.mono t3
      have m1 := m1.mono t3
      have m2 := m2.mono t3
      have SA := SA.trans t3
      have E5 := mul_bg (B2.mono (show 400 ≤ 400 by decide)) (B3.mono (show 400 ≤ 400 by decide))
      refine mul_g T (g := g1) (h := g2.mul g3) P1 m3 (B1.1.mono (by decide)) (E5.2.1.mono (by decide)) fun a4 A4 t4 n4 m4 => ?_
      have m4 : PG' T A4 a4 (g1.mul (g2.mul g3)) := m4
      have P1 := P1.mono t4
      have P2 := P2.mono t4
      have P3 := P3.mono t4
      have m1 := m1.mono t4
      have m2 := m2.mono t4
      have m3 := m3.mono t4
      have SA := SA.trans t4
      have E6 := mul_bg (B1.mono (show 400 ≤ 802 by decide)) (E5.mono (show 802 ≤ 802 by decide))
      refine eq_g T (f := not) (g := (g1.mul g2).mul g3) (h := g1.mul (g2.mul g3)) m2 m4 ⟨_, rfl, ?_⟩
      refine ifN (by rw [G.mul_assoc]; simp) ?_
      refine ⟨_, rfl, _, rfl, inv_g T (g := g1) P1 (B1.1.mono (by decide)) (B1.2.1.mono (by decide)) fun a5 A5 t5 n5 m5 => ?_⟩
      have m5 : PG' T A5 a5 g1.inv := m5
      have P1 := P1.mono t5
      have P2 := P2.mono t5
      have P3 := P3.mono t5
      have SA := SA.trans t5
      have E7 := inv_bg B1
      refine mul_g T (g := g1) (h := g1.inv) P1 m5 (B1.1.mono (by decide)) (E7.2.1.mono (by decide)) fun a6 A6 t6 n6 m6 => ?_
      have m6 : PG' T A6 a6 (g1.mul g1.inv) := m6
      have P1 := P1.mono t6
      have P2 := P2.mono t6
      have P3 := P3.mono t6
      have m5 := m5.mono t6
      have SA := SA.trans t6
      have E8 := mul_bg (B1.mono (show 400 ≤ 801 by decide)) (E7.mono (show 801 ≤ 801 by decide))
      refine ⟨rfl, fun a7 A7 t7 n7 m7 => ?_⟩
      have m7 : PG' T A7 a7 G.one := m7
      have P1 := P1.mono t7
      have P2 := P2.mono t7
      have P3 := P3.mono t7
      have m5 := m5.mono t7
      have m6 := m6.mono t7
      have SA := SA.trans t7
      refine eq_g T (f := not) (g := g1.mul g1.inv) (h := G.one) m6 m7 ⟨_, rfl, ?_⟩
      refine ifN (by rw [G.mul_inv]; simp) ?_
      refine ⟨_, rfl, inv_g T (g := g1) P1 (B1.1.mono (by decide)) (B1.2.1.mono (by decide)) fun a8 A8 t8 n8 m8 => ?_⟩
      have m8 : PG' T A8 a8 g1.inv := m8
      have P1 := P1.mono t8
      have P2 := P2.mono t8
      have P3 := P3.mono t8
      have SA := SA.trans t8
      refine ⟨_, rfl, mul_g T (g := g1.inv) (h := g1) m8 P1 (E7.1.mono (by decide)) (B1.2.1.mono (by decide)) fun a9 A9 t9 n9 m9 => ?_⟩
      have m9 : PG' T A9 a9 (g1.inv.mul g1) := m9
      have P1 := P1.mono t9
      have P2 := P2.mono t9
      have P3 := P3.mono t9
      have m8 := m8.mono t9
      have SA := SA.trans t9
      have E9 := mul_bg (E7.mono (show 801 ≤ 801 by decide)) (B1.mono (show 400 ≤ 801 by decide))
      refine ⟨rfl, fun a10 A10 t10 n10 m10 => ?_⟩
      have m10 : PG' T A10 a10 G.one := m10
      have P1 := P1.mono t10
      have P2 := P2.mono t10
      have P3 := P3.mono t10
      have m8 := m8.mono t10
      have m9 := m9.mono t10
      have SA := SA.trans t10
      refine eq_g T (f := not) (g := g1.inv.mul g1) (h := G.one) m9 m10 ⟨_, rfl, ?_⟩
      refine ifN (by rw [G.inv_mul]; simp) ?_
      -- B
      refine ⟨_, rfl, _, rfl, mul_g T (g := g1) (h := g2) P1 P2 (B1.1.mono (by decide)) (B2.2.1.mono (by decide)) fun a11 A11 t11 n11 m11 => ?_⟩
      have m11 : PG' T A11 a11 (g1.mul g2) := m11
      have P1 := P1.mono t11
      have P2 := P2.mono t11
      have P3 := P3.mono t11
      have SA := SA.trans t11
      refine inv_g T (g := g1.mul g2) m11 (E3.1.mono (by decide)) (E3.2.1.mono (by decide)) fun a12 A12 t12 n12 m12 => ?_
      have m12 : PG' T A12 a12 ((g1.mul g2).inv) := m12
      have P1 := P1.mono t12
      have P2 := P2.mono t12
      have P3 := P3.mono t12
      have m11 := m11.mono t12
      have SA := SA.trans t12
      have E10 := inv_bg E3
      refine ⟨_, rfl, inv_g T (g := g2) P2 (B2.1.mono (by decide)) (B2.2.1.mono (by decide)) fun a13 A13 t13 n13 m13 => ?_⟩
      have m13 : PG' T A13 a13 g2.inv := m13
      have P1 := P1.mono t13
      have P2 := P2.mono t13
      have P3 := P3.mono t13
      have m11 := m11.mono t13
      have m12 := m12.mono t13
      have SA := SA.trans t13
      have E11 := inv_bg B2
      refine ⟨_, rfl, inv_g T (g := g1) P1 (B1.1.mono (by decide)) (B1.2.1.mono (by decide)) fun a14 A14 t14 n14 m14 => ?_⟩
      have m14 : PG' T A14 a14 g1.inv := m14
      have P1 := P1.mono t14
      have P2 := P2.mono t14
      have P3 := P3.mono t14
      have m11 := m11.mono t14
      have m12 := m12.mono t14
      have m13 := m13.mono t14
      have SA := SA.trans t14
      refine mul_g T (g := g2.inv) (h := g1.inv) m13 m14 (E11.1.mono (by decide)) (E7.2.1.mono (by decide)) fun a15 A15 t15 n15 m15 => ?_
      have m15 : PG' T A15 a15 (g2.inv.mul g1.inv) := m15
      have P1 := P1.mono t15
      have P2 := P2.mono t15
      have P3 := P3.mono t15
      have m11 := m11.mono t15
      have m12 := m12.mono t15
      have m13 := m13.mono t15
      have m14 := m14.mono t15
      have SA := SA.trans t15
      have E12 := mul_bg (E11.mono (show 801 ≤ 801 by decide)) (E7.mono (show 801 ≤ 801 by decide))
      refine eq_g T (f := not) (g := (g1.mul g2).inv) (h := g2.inv.mul g1.inv) m12 m15 ⟨_, rfl, ?_⟩
      refine ifN (by rw [G.inv_of_mul]; simp) ?_
      refine ⟨rfl, fun a16 A16 t16 n16 m16 => ?_⟩
      have m16 : PG' T A16 a16 G.one := m16
      have P1 := P1.mono t16
      have P2 := P2.mono t16
      have P3 := P3.mono t16
      have SA := SA.trans t16
      obtain ⟨dx1, ex1⟩ := id m16
      refine ⟨a16, dx1, _, rfl, ex1, flds_no _ _ _ rfl rfl rfl, a16, _, _, _, rfl, m16, ?_⟩
      refine ⟨_, rfl, ?_⟩
      refine ifN rfl ?_
      obtain ⟨dx2, ex2⟩ := id P1
      refine ⟨_, rfl, r1, dx2, _, rfl, ex2, flds_no _ _ _ rfl rfl rfl, r1, _, _, _, rfl, P1, ?_⟩
      refine ⟨_, rfl, rfl, fun a17 A17 t17 n17 m17 => ?_⟩
      have m17 : PG' T A17 a17 G.one := m17
      have P1 := P1.mono t17
      have P2 := P2.mono t17
      have P3 := P3.mono t17
      have SA := SA.trans t17
      refine eq_g T (f := id) (g := g1) (h := G.one) P1 m17 ⟨rfl, _, rfl, ?_⟩
      refine ifN (by rw [home_iff]; simp) ?_
      -- C
      refine ⟨_, rfl, _, rfl, mul_g T (g := g1) (h := g2) P1 P2 (B1.1.mono (by decide)) (B2.2.1.mono (by decide)) fun a18 A18 t18 n18 m18 => ?_⟩
      have m18 : PG' T A18 a18 (g1.mul g2) := m18
      have P1 := P1.mono t18
      have P2 := P2.mono t18
      have P3 := P3.mono t18
      have SA := SA.trans t18
      refine ⟨_, rfl, _, rfl, mul_g T (g := g2) (h := g1) P2 P1 (B2.1.mono (by decide)) (B1.2.1.mono (by decide)) fun a19 A19 t19 n19 m19 => ?_⟩
      have m19 : PG' T A19 a19 (g2.mul g1) := m19
      have P1 := P1.mono t19
      have P2 := P2.mono t19
      have P3 := P3.mono t19
      have m18 := m18.mono t19
      have SA := SA.trans t19
      have E13 := mul_bg (B2.mono (show 400 ≤ 400 by decide)) (B1.mono (show 400 ≤ 400 by decide))
      obtain ⟨dx3, ex3⟩ := id m19
      obtain ⟨dx4, ex4⟩ := id P1
      refine ⟨a19, dx3, _, rfl, ex3, flds_no _ _ _ rfl rfl rfl, _, rfl, r1, dx4, _, rfl, ex4, flds_no _ _ _ rfl rfl rfl, _, rfl, r1, .ref r2, _, _, _, rfl, P1, .inl ⟨r2, _, _, _, rfl, P2, (B1.1.mono (by decide)), (B1.2.1.mono (by decide)), (B2.1.mono (by decide)), (B2.2.1.mono (by decide)), a19, .int _, _, _, _, rfl, m19, .int _, .inl ⟨_, rfl, fun a20 A20 t20 n20 m20 => ?_⟩⟩⟩
      have m20 : PG' T A20 a20 ((g2.mul g1).lift (g1.x * g2.y - g2.x * g1.y)) := m20
      have P1 := P1.mono t20
      have P2 := P2.mono t20
      have P3 := P3.mono t20
      have m18 := m18.mono t20
      have m19 := m19.mono t20
      have SA := SA.trans t20
      refine eq_g T (f := not) (g := g1.mul g2) (h := (g2.mul g1).lift (g1.x * g2.y - g2.x * g1.y)) m18 m20 ⟨_, rfl, ?_⟩
      refine ifN (by rw [← G.twist_mul]; simp) ?_
      obtain ⟨dx5, ex5⟩ := id P1
      refine ⟨_, rfl, r1, dx5, _, rfl, ex5, flds_no _ _ _ rfl rfl rfl, r1, .int 5, _, _, _, rfl, P1, .int _, .inl ⟨5, rfl, fun a21 A21 t21 n21 m21 => ?_⟩⟩
      have m21 : PG' T A21 a21 (g1.lift 5) := m21
      have P1 := P1.mono t21
      have P2 := P2.mono t21
      have P3 := P3.mono t21
      have SA := SA.trans t21
      refine ⟨_, rfl, ?_⟩
      intro a22 dd22 n22 hd22 _
      refine ⟨_, _, _, _, _, rfl, upd_same, .int _, .int _, .int _, .inl ⟨_, _, _, rfl, rfl, rfl, fun A22 ss22 ee22 => ⟨rfl, ?_⟩⟩⟩
      obtain ⟨t22, m22⟩ := mk_facts T n22 hd22 ss22 ee22
      have m22 : PG' T A22 a22 (⟨0, 0, 5⟩) := m22
      have P1 := P1.mono t22
      have P2 := P2.mono t22
      have P3 := P3.mono t22
      have m21 := m21.mono t22
      have SA := SA.trans t22
      have E14 := (show Bg 400 ⟨0, 0, 5⟩ from bg5)
      refine mul_g T (g := g1) (h := ⟨0, 0, 5⟩) P1 m22 (B1.1.mono (by decide)) (E14.2.1.mono (by decide)) fun a23 A23 t23 n23 m23 => ?_
      have m23 : PG' T A23 a23 (g1.mul (⟨0, 0, 5⟩)) := m23
      have P1 := P1.mono t23
      have P2 := P2.mono t23
      have P3 := P3.mono t23
      have m21 := m21.mono t23
      have m22 := m22.mono t23
      have SA := SA.trans t23
      have E15 := mul_bg (B1.mono (show 400 ≤ 400 by decide)) (E14.mono (show 400 ≤ 400 by decide))
      refine eq_g T (f := not) (g := g1.lift 5) (h := g1.mul (⟨0, 0, 5⟩)) m21 m23 ⟨_, rfl, ?_⟩
      refine ifN (by rw [G.lift_mul]; simp) ?_
      -- D
      have bA := bA.trans (But.of SA)
      have q12 := q11.mono (B' := B + 260) (by omega) SA
      have tb12 := tb11.ext SA
      refine ⟨_, rfl, _, rfl, p, r1, g1, _, rfl, q12, by omega, P1, B1.mono (by decide), fun Hp bp qp => ?_⟩
      have P1 := PG'.but P1 q12 bp
      have P2 := PG'.but P2 q12 bp
      have tbp := tabs_but q12 tb12 bp
      refine ⟨_, rfl, ifN rfl ?_⟩
      have n1p := PG'.ne P1 qp
      have n2p := PG'.ne P2 qp
      refine ⟨_, rfl, _, rfl, p, r2, g2, _, rfl, qp, by omega, P2, B2.mono (by decide), tbp, fun Hr bx tbr qr => ?_⟩
      have P1 := PG'.bx bx n1p P1
      refine ⟨_, rfl, ifN rfl ?_⟩
      have SA : Same Hr Hr := Same.refl _
      -- E
      obtain ⟨dx6, ex6⟩ := id P1
      refine ⟨_, rfl, r1, _, dx6, _, _, rfl, ex6, T.cl_Place, T.na_Place_x, rfl, _, rfl, r1, _, dx6, _, _, rfl, ex6, T.cl_Place, T.na_Place_y, rfl, _, rfl, r1, _, dx6, _, _, rfl, ex6, T.cl_Place, T.na_Place_area, rfl, ?_⟩
      intro a24 dd24 n24 hd24 _
      refine ⟨_, _, _, _, _, rfl, upd_same, .int _, .int _, .int _, .inl ⟨_, _, _, rfl, rfl, rfl, fun A24 ss24 ee24 => ⟨rfl, ?_⟩⟩⟩
      obtain ⟨t24, m24⟩ := mk_facts T n24 hd24 ss24 ee24
      have m24 : PG' T A24 a24 g1 := m24
      have P1 := P1.mono t24
      have SA := SA.trans t24
      refine ⟨_, rfl, eq_g T (f := not) (g := g1) (h := g1) m24 P1 ⟨_, rfl, ?_⟩⟩
      refine ifN (by simp) ?_
      refine ⟨rfl, rfl, ?_⟩
      intro a25 dd25 n25 hd25 _
      refine ⟨_, _, _, _, _, rfl, upd_same, .int _, .int _, .int _, .inl ⟨_, _, _, rfl, rfl, rfl, fun A25 ss25 ee25 => ⟨rfl, ?_⟩⟩⟩
      obtain ⟨t25, m25⟩ := mk_facts T n25 hd25 ss25 ee25
      have m25 : PG' T A25 a25 (⟨3, 2, 1⟩) := m25
      have P1 := P1.mono t25
      have SA := SA.trans t25
      intro a26 dd26 n26 hd26 _
      refine ⟨_, _, _, _, _, rfl, upd_same, .int _, .int _, .int _, .inl ⟨_, _, _, rfl, rfl, rfl, fun A26 ss26 ee26 => ⟨rfl, ?_⟩⟩⟩
      obtain ⟨t26, m26⟩ := mk_facts T n26 hd26 ss26 ee26
      have m26 : PG' T A26 a26 (⟨3, 2, 1⟩) := m26
      have P1 := P1.mono t26
      have m25 := m25.mono t26
      have SA := SA.trans t26
      refine eq_g T (f := not) (g := ⟨3, 2, 1⟩) (h := ⟨3, 2, 1⟩) m25 m26 ⟨_, rfl, ?_⟩
      refine ifN (by simp) ?_
      refine ⟨⟨_, _, _, _, _, _, _, _, _, rfl⟩, qr.mono (by rw [← hBi]; omega) SA, tbr.ext SA⟩
end
end AW

namespace AW
open PySem PySem.Spec PyProof.Rows L2
/-- the law, called as the statement calls it -/
theorem k02_at {l : PySem.W.OpenLaw} {w : World} {K : PySem.W.Frag} {mg : Str → Option Value} {fa : Addr} {h : Heap} (T : Tx K mg) (ea : T.a_law = fa) (KX : K.In h) (ht : h.get? T.pt_l_refusals_right = some (PySem.W.tabObj #[])) :
    LamX.LawAtS l w K (L2.CX l.prog w) 15 63 "_law_script" mg fa h := by
  subst ea
  refine ⟨T.d_law, [(T.cc_l_refusals_right, T.pt_l_refusals_right)], sp_law T, fun p hp => ?_, fun p hp => ?_, fun p hp => ?_, fun s u => ?_, fun H a ns hl _ hH hS => ?_, fun base KB hm hb => ?_⟩
  · rw [List.mem_singleton.mp hp]; exact ht
  · rw [List.mem_singleton.mp hp]; exact T.n_l_refusals_right
  · rw [List.mem_singleton.mp hp]; exact PySem.W.codeHd_of_K KX T.h_l_refusals_right
  · obtain ⟨oc, od, kV, doc, pm, an, cdv, ct, osl, e, lk, hcd⟩ := T.F_law.ex
    rw [e]
    exact BindsTo.of_eq rfl
  · refine ⟨a, ns, rfl, hS, hl, fun q hq => ?_, fun H' => rfl⟩
    rw [List.mem_singleton.mp hq]
    exact LamX.TabS.nil (hH _ (List.mem_singleton.mpr rfl))
  · exact ok_law T (hb _ (List.mem_singleton.mpr rfl))
end AW
open PySem PySem.W PyProof.Rows in
set_option maxRecDepth 100000 in
set_option maxHeartbeats 0 in
theorem PySem.Challenge.cw_areawalks_k02_places_holds : PySem.Challenge.rw_areawalks_k02_places.Holds := by
  w_on; o_law; k_head; (case hw => w_witness2)
  k_fill
  refine LamX.walk_ofTs (l := PySem.Challenge.rw_areawalks_k02_places) (n := 63) (k := 15) (x := "_law_script") (CX := fun w => L2.CX (PySem.Challenge.rw_areawalks_k02_places).prog w) rfl (by decide) rfl ⟨rfl, by decide, by decide⟩ (fun w h Y => PySem.W.km_in_of Y) ?F ?G
  case G =>
    intro w H s e s' h
    obtain ⟨_, _, _, _, _, _, _, _, _, _, _, _, z⟩ := h
    exact z.elim
  case F =>
    intro w mg fa h Y KX G hmg
    have ht := PySem.W.km_tabs_of Y
    refine' AW.tx_mk (pt_l_refusals_right := 242) KX G hmg ?g_is_integer ?l_is_integer ?c_is_integer ?k_is_integer ?g_check_integer ?l_check_integer ?c_check_integer ?k_check_integer ?g_check_place ?l_check_place ?c_check_place ?k_check_place ?g_home_place ?l_home_place ?c_home_place ?k_home_place ?g_product_of ?l_product_of ?c_product_of ?k_product_of ?g_l_pen ?l_l_pen ?c_l_pen ?k_l_pen ?g_l_draw ?l_l_draw ?c_l_draw ?k_l_draw ?g_l_pick ?l_l_pick ?c_l_pick ?k_l_pick ?g_l_big ?l_l_big ?c_l_big ?k_l_big ?g_l_whole ?l_l_whole ?c_l_whole ?k_l_whole ?g_l_place ?l_l_place ?c_l_place ?k_l_place ?g_l_step ?l_l_step ?c_l_step ?k_l_step ?g_l_swept ?l_l_swept ?c_l_swept ?k_l_swept ?g_l_refused ?l_l_refused ?c_l_refused ?k_l_refused ?g_l_same ?l_l_same ?c_l_same ?k_l_same ?g_l_refusals_right ?l_l_refusals_right ?c_l_refusals_right ?h_l_refusals_right ?n_l_refusals_right ?k_l_refusals_right ?g_l_powers_right ?l_l_powers_right ?c_l_powers_right ?k_l_powers_right ?g_law ?l_law ?c_law ?k_law ?g_C_WalkError ?sa_WalkError ?ex_WalkError ?ty_WalkError ?kc_WalkError ?ga_WalkError ?gg_WalkError ?hd_WalkError ?ic_WalkError ?x_WalkError ?g_C_BadNumber ?m_BadNumber_init ?i_BadNumber_init ?l_BadNumber_init ?c_BadNumber_init ?k_BadNumber_init ?sa_BadNumber ?ex_BadNumber ?ty_BadNumber ?kc_BadNumber ?ga_BadNumber ?gg_BadNumber ?hd_BadNumber ?ic_BadNumber ?x_BadNumber ?na_BadNumber_value ?g_C_BadPlace ?m_BadPlace_init ?i_BadPlace_init ?l_BadPlace_init ?c_BadPlace_init ?k_BadPlace_init ?sa_BadPlace ?ex_BadPlace ?ty_BadPlace ?kc_BadPlace ?ga_BadPlace ?gg_BadPlace ?hd_BadPlace ?ic_BadPlace ?x_BadPlace ?na_BadPlace_value ?g_C_Place ?pg_Place ?hd_Place ?po_Place ?sa_Place ?ca_Place ?cm_Place ?na_Place_x ?na_Place_y ?na_Place_area ?m_Place_init ?i_Place_init ?l_Place_init ?c_Place_init ?k_Place_init ?mk_Place ?kc_Place ?m_Place_eq ?i_Place_eq ?l_Place_eq ?c_Place_eq ?k_Place_eq ?ne_Place ?m_Place_mul ?i_Place_mul ?l_Place_mul ?c_Place_mul ?k_Place_mul ?sf_Place_Mult ?ro_Place_Mult ?m_Place_invert ?i_Place_invert ?l_Place_invert ?c_Place_invert ?k_Place_invert ?m_Place_power ?i_Place_power ?l_Place_power ?c_Place_power ?k_Place_power ?m_Place_is_home ?i_Place_is_home ?l_Place_is_home ?c_Place_is_home ?k_Place_is_home ?m_Place_lifted ?i_Place_lifted ?l_Place_lifted ?c_Place_lifted ?k_Place_lifted ?m_Place_twist ?i_Place_twist ?l_Place_twist ?c_Place_twist ?k_Place_twist ?cn ?ct ?io_Place_int ?io_Place_bool ?is_NoneType_Place ?sb_NoneType_Place ?is_bool_Place ?sb_bool_Place ?is_int_Place ?sb_int_Place ?is_str_Place ?sb_str_Place ?is_list_Place ?sb_list_Place ?is_tuple_Place ?sb_tuple_Place ?is_dict_Place ?sb_dict_Place ?em_BadNumber_BadNumber ?em_BadPlace_BadNumber ?em_BadNumber_BadPlace ?em_BadPlace_BadPlace ?em_BadNumber_WalkError ?em_BadPlace_WalkError ?n_all ?n_bool ?n_int ?n_isinstance ?n_len ?n_list ?n_min ?n_range ?kk
    (case g_is_integer => k_is)
    (case l_is_integer => k_is)
    (case c_is_integer => k_is)
    (case k_is_integer => k_is)
    (case g_check_integer => k_is)
    (case l_check_integer => k_is)
    (case c_check_integer => k_is)
    (case k_check_integer => k_is)
    (case g_check_place => k_is)
    (case l_check_place => k_is)
    (case c_check_place => k_is)
    (case k_check_place => k_is)
    (case g_home_place => k_is)
    (case l_home_place => k_is)
    (case c_home_place => k_is)
    (case k_home_place => k_is)
    (case g_product_of => k_is)
    (case l_product_of => k_is)
    (case c_product_of => k_is)
    (case k_product_of => k_is)
    (case g_l_pen => k_is)
    (case l_l_pen => k_is)
    (case c_l_pen => k_is)
    (case k_l_pen => k_is)
    (case g_l_draw => k_is)
    (case l_l_draw => k_is)
    (case c_l_draw => k_is)
    (case k_l_draw => k_is)
    (case g_l_pick => k_is)
    (case l_l_pick => k_is)
    (case c_l_pick => k_is)
    (case k_l_pick => k_is)
    (case g_l_big => k_is)
    (case l_l_big => k_is)
    (case c_l_big => k_is)
    (case k_l_big => k_is)
    (case g_l_whole => k_is)
    (case l_l_whole => k_is)
    (case c_l_whole => k_is)
    (case k_l_whole => k_is)
    (case g_l_place => k_is)
    (case l_l_place => k_is)
    (case c_l_place => k_is)
    (case k_l_place => k_is)
    (case g_l_step => k_is)
    (case l_l_step => k_is)
    (case c_l_step => k_is)
    (case k_l_step => k_is)
    (case g_l_swept => k_is)
    (case l_l_swept => k_is)
    (case c_l_swept => k_is)
    (case k_l_swept => k_is)
    (case g_l_refused => k_is)
    (case l_l_refused => k_is)
    (case c_l_refused => k_is)
    (case k_l_refused => k_is)
    (case g_l_same => k_is)
    (case l_l_same => k_is)
    (case c_l_same => k_is)
    (case k_l_same => k_is)
    (case g_l_refusals_right => k_is)
    (case l_l_refusals_right => k_is)
    (case c_l_refusals_right => k_is)
    (case h_l_refusals_right => (first | k_is | exact rfl | kernel_rfl))
    (case n_l_refusals_right => (first | k_is | exact rfl | kernel_rfl))
    (case k_l_refusals_right => k_is)
    (case g_l_powers_right => k_is)
    (case l_l_powers_right => k_is)
    (case c_l_powers_right => k_is)
    (case k_l_powers_right => k_is)
    (case g_law => k_is)
    (case l_law => k_is)
    (case c_law => k_is)
    (case k_law => k_is)
    (case g_C_WalkError => k_is)
    (case sa_WalkError => k_is)
    (case ex_WalkError => k_is)
    (case ty_WalkError => k_is)
    (case kc_WalkError => k_is)
    (case ga_WalkError => k_is)
    (case gg_WalkError => k_is)
    (case hd_WalkError => k_is)
    (case ic_WalkError => k_is)
    (case x_WalkError => k_is)
    (case g_C_BadNumber => k_is)
    (case m_BadNumber_init => k_is)
    (case i_BadNumber_init => k_is)
    (case l_BadNumber_init => k_is)
    (case c_BadNumber_init => k_is)
    (case k_BadNumber_init => k_is)
    (case sa_BadNumber => k_is)
    (case ex_BadNumber => k_is)
    (case ty_BadNumber => k_is)
    (case kc_BadNumber => k_is)
    (case ga_BadNumber => k_is)
    (case gg_BadNumber => k_is)
    (case hd_BadNumber => k_is)
    (case ic_BadNumber => k_is)
    (case x_BadNumber => k_is)
    (case na_BadNumber_value => k_is)
    (case g_C_BadPlace => k_is)
    (case m_BadPlace_init => k_is)
    (case i_BadPlace_init => k_is)
    (case l_BadPlace_init => k_is)
    (case c_BadPlace_init => k_is)
    (case k_BadPlace_init => k_is)
    (case sa_BadPlace => k_is)
    (case ex_BadPlace => k_is)
    (case ty_BadPlace => k_is)
    (case kc_BadPlace => k_is)
    (case ga_BadPlace => k_is)
    (case gg_BadPlace => k_is)
    (case hd_BadPlace => k_is)
    (case ic_BadPlace => k_is)
    (case x_BadPlace => k_is)
    (case na_BadPlace_value => k_is)
    (case g_C_Place => k_is)
    (case pg_Place => k_is)
    (case hd_Place => k_is)
    (case po_Place => k_is)
    (case sa_Place => k_is)
    (case ca_Place => k_is)
    (case cm_Place => k_is)
    (case na_Place_x => k_is)
    (case na_Place_y => k_is)
    (case na_Place_area => k_is)
    (case m_Place_init => k_is)
    (case i_Place_init => k_is)
    (case l_Place_init => k_is)
    (case c_Place_init => k_is)
    (case k_Place_init => k_is)
    (case mk_Place => k_is)
    (case kc_Place => k_is)
    (case m_Place_eq => k_is)
    (case i_Place_eq => k_is)
    (case l_Place_eq => k_is)
    (case c_Place_eq => k_is)
    (case k_Place_eq => k_is)
    (case ne_Place => k_is)
    (case m_Place_mul => k_is)
    (case i_Place_mul => k_is)
    (case l_Place_mul => k_is)
    (case c_Place_mul => k_is)
    (case k_Place_mul => k_is)
    (case sf_Place_Mult => k_is)
    (case ro_Place_Mult => k_is)
    (case m_Place_invert => k_is)
    (case i_Place_invert => k_is)
    (case l_Place_invert => k_is)
    (case c_Place_invert => k_is)
    (case k_Place_invert => k_is)
    (case m_Place_power => k_is)
    (case i_Place_power => k_is)
    (case l_Place_power => k_is)
    (case c_Place_power => k_is)
    (case k_Place_power => k_is)
    (case m_Place_is_home => k_is)
    (case i_Place_is_home => k_is)
    (case l_Place_is_home => k_is)
    (case c_Place_is_home => k_is)
    (case k_Place_is_home => k_is)
    (case m_Place_lifted => k_is)
    (case i_Place_lifted => k_is)
    (case l_Place_lifted => k_is)
    (case c_Place_lifted => k_is)
    (case k_Place_lifted => k_is)
    (case m_Place_twist => k_is)
    (case i_Place_twist => k_is)
    (case l_Place_twist => k_is)
    (case c_Place_twist => k_is)
    (case k_Place_twist => k_is)
    (case cn => k_is)
    (case ct => k_is)
    (case io_Place_int => kit_is)
    (case io_Place_bool => kit_is)
    (case is_NoneType_Place => kit_is)
    (case sb_NoneType_Place => k_is)
    (case is_bool_Place => kit_is)
    (case sb_bool_Place => k_is)
    (case is_int_Place => kit_is)
    (case sb_int_Place => k_is)
    (case is_str_Place => kit_is)
    (case sb_str_Place => k_is)
    (case is_list_Place => kit_is)
    (case sb_list_Place => k_is)
    (case is_tuple_Place => kit_is)
    (case sb_tuple_Place => k_is)
    (case is_dict_Place => kit_is)
    (case sb_dict_Place => k_is)
    (case em_BadNumber_BadNumber => kts_exm)
    (case em_BadPlace_BadNumber => kts_exm)
    (case em_BadNumber_BadPlace => kts_exm)
    (case em_BadPlace_BadPlace => kts_exm)
    (case em_BadNumber_WalkError => kts_exm)
    (case em_BadPlace_WalkError => kts_exm)
    (case n_all => k_is)
    (case n_bool => k_is)
    (case n_int => k_is)
    (case n_isinstance => k_is)
    (case n_len => k_is)
    (case n_list => k_is)
    (case n_min => k_is)
    (case n_range => k_is)
    (case kk =>
      intro T ea ep
      exact AW.k02_at T ea KX (by rw [ep]; exact ht 242 (by decide)))
