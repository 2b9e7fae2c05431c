import PyProof.Rows.All
import Wide.All
import OpenK.AllK
import Wide.FinOn
import PyProof.InstEq
import HandS.ForMost
import HandS.IsInst
import HandS.OwnEq
import HandS.SlotsOwn
import HandS.NamedTupSort
import HandS.Exc
import HandS.TryMany
import HandS.ExcField
import HandS.WordsExc
import HandS.Lambda
import OpenK.KOwn
import HandS.Gcd
import HandS.ExcOwn
import HandS.Small
import PyProof.ExcBaseAll.ValueError
import HandS.ExcInit
import HandS.Wide
import HandS.Walk
import HandS.Style
import KE.RegKIsAll
import KE.RegKTryMore
import KE.KNestM
import HandS.MakeKw
import HandS.Defaults
import KE.KEqSeq
import HandS.EndTab
import PySem.Challenge.RW_areawalks_k19_whole_spheres
set_option Elab.async false
set_option linter.all false
set_option maxRecDepth 100000
set_option maxHeartbeats 4000000
/-! own operators of an instance, whatever stands on the right -/
namespace AWR
open PySem PySem.W PyProof.Rows Builtin
section
variable {prog : Program} {w : World} {A : Around} {E : Value → Shared → Prop} {s : Shared} {K : Frag} {x C f : Addr} {ox : Obj} {oD : Option Obj} {b tb : Value}
/-- x != b by object.__ne__, the own __eq__ behind it -/
theorem one_ne {Q : Value → Shared → Prop} (hu : A.units + 1 < cLine) (X : K.In s.heap) (iv : InstAt s.heap x ox C oD)
    (hne : findIn K (.ref C) "__ne__" = some (some (.builtin "object.__ne__"))) (hm : mroIn K C (.type "object") = some true)
    (hs : findIn K (.ref C) "__eq__" = some (some (.ref f))) (hf : isFn K (.ref f) = true)
    (h : wpAny (model prog w) A.in1 (call (.ref f) [.ref x, b]) (fun v s' => ∃ r, v = .bool r ∧ Q (.bool (!r)) s') E s) :
    wpAny (model prog w) A (tryCompare (.ref x) "__ne__" b) (fun r s' => ∃ v, r = some v ∧ Q v s') E s := by
  simp only [tryCompare]
  have lookN : Looks (model prog w) s.heap (specialOf (.ref x) "__ne__") (some (.builtin "object.__ne__")) := fun A Q E s' k q => wpAny_bind ((iv.type.keeps k).here ((looks_findIn (X.keeps k) hne).here q))
  have L2 : Looks (model prog w) s.heap (isInstance (.ref x) (.type "object")) true := iv.type.andThen (looks_mroIn X hm)
  refine wpAny_bind (NtL.csib lookN (by kernel_rfl) ?_)
  refine wpAny_call (codeAny_call_builtin (by decide +kernel) F.cmpEntry_ne (check_slot F.cmpKind_ne F.cmpSplit_ne L2 (F.cmpArgs_ne _ _) ?_))
  unfold Builtin.«object.__ne__»
  repeat (first
    | with_reducible refine wpAny_cRoomFor hu ?_
    | (refine wpAny_bind (m := callSpecialIfBound? (.ref x) (Str.ofString "__eq__") [b]) (ifBound_K X iv hs hf (wpAny_mono h (fun r s' hr => by
          obtain ⟨q, rfl, kq⟩ := hr
          repeat (first | exact ⟨_, rfl, wpAny_pure ⟨_, rfl, kq⟩⟩ | exact wpAny_pure ⟨_, rfl, kq⟩ | exact wpAny_truthy_bool ⟨_, rfl, kq⟩ | (refine wpAny_bind (m := truthy (.bool _)) (wpAny_truthy_bool ?_)) | wp_step)) fun _ _ e => e)))
    | wp_step)
theorem ne_K {Q : Value → Shared → Prop} (hu : A.units + 1 < cLine) (X : K.In s.heap) (iv : InstAt s.heap x ox C oD) (hb : Looks (model prog w) s.heap (typeOf b) tb) (hn : notFirst K C tb = true)
    (hne : findIn K (.ref C) "__ne__" = some (some (.builtin "object.__ne__"))) (hm : mroIn K C (.type "object") = some true)
    (hs : findIn K (.ref C) "__eq__" = some (some (.ref f))) (hf : isFn K (.ref f) = true)
    (h : wpAny (model prog w) A.in1 (call (.ref f) [.ref x, b]) (fun v s' => ∃ r, v = .bool r ∧ Q (.bool (!r)) s') E s) : wpAny (model prog w) A (richCompare .NotEq (.ref x) b) Q E s := by
  have cmp1 := one_ne (b := b) (Q := Q) hu X iv hne hm hs hf h
  unfold richCompare
  simp only [oneThing_ref]
  refine wpAny_holding (wpAny_bind (wpAny_cRoomFor (Nat.lt_of_succ_lt hu) ?_))
  refine wpAny_bind (iv.type.here (wpAny_bind (hb.here ?_)))
  split
  · rename_i q
    have e : subIn K tb (.ref C) = some false := by
      rcases Bool.or_eq_true_iff.mp hn with e | e
      · rw [beq_iff_eq.mp e] at q; simp at q
      · exact beq_iff_eq.mp e
    refine wpAny_bind ((looks_subIn X e).here ?_)
    simp only [Bool.false_eq_true, if_false]
    refine wpAny_bind (wpAny_mono cmp1 (fun r s' z => ?_) fun _ _ e => e)
    obtain ⟨v, rfl, kq⟩ := z
    exact wpAny_pure kq
  · refine wpAny_bind (wpAny_pure ?_)
    simp only [Bool.false_eq_true, if_false]
    refine wpAny_bind (wpAny_mono cmp1 (fun r s' z => ?_) fun _ _ e => e)
    obtain ⟨v, rfl, kq⟩ := z
    exact wpAny_pure kq
end
end AWR

set_option linter.all false
set_option maxRecDepth 100000
set_option maxHeartbeats 4000000
namespace AWR
open PySem PySem.W PyProof.Rows Builtin
section
variable {prog : Program} {w : World} {A : Around} {E : Value → Shared → Prop} {s : Shared} {K : Frag} {x C f : Addr} {ox : Obj} {od : Option Obj} {b tb : Value}
theorem tryM {nm : Str} {Q : Option Value → Shared → Prop} (X : K.In s.heap) (I : InstAt s.heap x ox C od) (hs : findIn K (.ref C) nm = some (some (.ref f))) (hf : isFn K (.ref f) = true)
    (h : wpAny (model prog w) A (call (.ref f) [.ref x, b]) (W.CmpBack fun v => Q (some v)) E s) : wpAny (model prog w) A (tryMethod (.ref x) nm b) Q E s := by
  unfold tryMethod
  refine wpAny_bind (special_fn X I hs (beq_iff_eq.mp hf) (wpAny_mono h (fun v s' hv => ?_) fun _ _ e => e))
  cases v <;> first | exact hv.elim | exact wpAny_pure hv
theorem fills_ty {M : Model} {h : Heap} {n nm : String} {r1 r2 : Option Value} (X : K.In h) (h1 : findIn K (.type n) (PySem.dunder nm) = some r1) (h2 : findIn K (.type n) (PySem.dunderR nm) = some r2) :
    Looks M h (fillsNumberSlot (.type n) nm) ((r1.isSome && !isSeqSlot r1) || (r2.isSome && !isSeqSlot r2)) := by
  unfold fillsNumberSlot
  exact (looks_findIn X h1).andThen ((looks_findIn X h2).andThen .now)
theorem inPy {M : Model} {h : Heap} {nm : String} (X : K.In h) (h1 : findIn K (.ref C) (PySem.dunder nm) = some (some (.ref f))) (h2 : findIn K (.ref C) (PySem.dunderR nm) = some none) :
    Looks M h (numberSlotInPython (.ref C) nm) true := by
  unfold numberSlotInPython
  refine (looks_findIn X h1).andThen ?_
  refine Looks.andThen (a := true) .now ?_
  refine (looks_findIn X h2).andThen ?_
  refine Looks.andThen (a := false) .now ?_
  exact .now
theorem binop_ty {op : Operator} {n : String} {r1 r2 : Option Value} {Q : Value → Shared → Prop} (X : K.In s.heap) (I : InstAt s.heap x ox C od) (hb : Looks (model prog w) s.heap (typeOf b) (.type n)) (hc : selfFirst K C = true)
    (hs : findIn K (.ref C) (PySem.dunder op.info.2) = some (some (.ref f))) (hr : findIn K (.ref C) (PySem.dunderR op.info.2) = some none) (hf : isFn K (.ref f) = true)
    (h1 : findIn K (.type n) (PySem.dunder op.info.2) = some r1) (h2 : findIn K (.type n) (PySem.dunderR op.info.2) = some r2) (hsub : subIn K (.type n) (.ref C) = some false)
    (h : wpAny (model prog w) A (call (.ref f) [.ref x, b]) (W.CmpBack Q) E s) : wpAny (model prog w) A (binaryOp op (.ref x) b) Q E s := by
  obtain ⟨cd, hcd, hm⟩ := any_some hc
  obtain ⟨rest, hm⟩ : ∃ rest, cd.mro = .ref C :: rest := by
    cases q : cd.mro with
    | nil => rw [q] at hm; cases hm
    | cons a r => rw [q] at hm; exact ⟨r, by rw [List.head?_cons] at hm; cases (beq_iff_eq.mp hm); rfl⟩
  unfold binaryOp
  refine wpAny_holding (wpAny_bind ?_)
  unfold binaryOp1
  refine wpAny_bind (I.type.here (wpAny_bind (hb.here (wpAny_bind ((fills_K X hcd hm hs).here ?_)))))
  rw [if_neg (by simp)]
  refine wpAny_bind ((fills_ty X h1 h2).here ?_)
  have last : wpAny (model prog w) A (tryMethod (.ref x) (PySem.dunder op.info.2) b) (fun r s' => ∃ v, r = some v ∧ Q v s') E s := tryM X I hs hf (wpAny_mono h (fun v s' hv => by cases v <;> first | exact hv.elim | exact ⟨_, rfl, hv⟩) fun _ _ e => e)
  cases hR : ((r1.isSome && !isSeqSlot r1) || (r2.isSome && !isSeqSlot r2)) with
  | false =>
    simp only [Bool.and_false, Bool.false_eq_true, if_false, Bool.false_and]
    refine wpAny_bind (wpAny_pure ?_)
    simp only [Bool.false_eq_true, if_false, if_true]
    refine wpAny_bind (m := tryMethod (.ref x) _ b) (wpAny_mono last (fun r s' z => ?_) fun _ _ e => e)
    obtain ⟨v, rfl, hq⟩ := z
    exact wpAny_pure (wpAny_pure hq)
  | true =>
    simp only [Bool.and_true, Bool.and_self, if_true]
    refine wpAny_bind ((looks_subIn X hsub).here ?_)
    simp only [Bool.false_eq_true, if_false]
    simp only [Bool.not_false, if_true]
    refine wpAny_bind ((inPy X hs hr).here ?_)
    simp only [if_true]
    refine wpAny_bind (m := numberSlotInPython (.type n) _) ?_
    refine wpAny_pure ?_
    simp only [Bool.not_false, if_true]
    refine wpAny_bind ((looks_findIn X h2).here ?_)
    refine wpAny_bind (m := tryMethod (.ref x) _ b) (wpAny_mono last (fun r s' z => ?_) fun _ _ e => e)
    obtain ⟨v, rfl, hq⟩ := z
    exact wpAny_pure (wpAny_pure hq)
end
end AWR

set_option linter.all false
set_option maxRecDepth 100000
set_option maxHeartbeats 4000000
namespace AW
open PySem PySem.Spec PyProof.Rows L2
section
variable {X : Cx} {CX : CXT} {k : Nat} {C f : Addr} {fd : FuncData} {ps : List Str} {sp : Sp} {E : XK}
/-- a def of the text runs, at some depth -/
theorem run_in {pins : List (Addr × Obj)} {σ : L2.St} {H : Hp} {s : Shared} {Q : VK} {us : List Value} {vs : List V} {A : Around} (F : FnOk X.prog X.w X.K X.mg X.base CX k f fd ps sp) (hr : Room k A) (fr : A.frames = X.A.frames) (hb : Binds X.K fd ps [])
    (hx : Passes CX X E) (iv : Inv X pins σ H s) (r : Vals vs us) (h : sp vs H Q E) : wpAny (model X.prog X.w) A (call (.ref f) us) (EP X pins σ Q) X.xe s := by
  have hl : (us ++ []).length = ps.length := by rw [List.append_nil, ← r.length]; exact F.len _ _ _ _ h
  have e0 : Env0 X.prog X.w X.K X.mg X.base A X.stack s H := by
    have e := iv.env0
    exact ⟨by rw [fr]; exact e.frames, e.mod, e.bs, e.bsz, e.funs, e.frf, e.hok, e.bare⟩
  refine wpAny_call (codeAny_mono (F.run A X.stack s H ⟨us, []⟩ us vs Q E hr e0 (by simpa using hb s us iv.kIn hl) r h) fun r s' kq => ?_)
  cases r with
  | error e => exact hx pins σ H s e s' iv kq
  | ok fl =>
    cases fl with
    | ret u => exact iv.after kq
    | next => exact False.elim kq
    | brk => exact False.elim kq
    | cont => exact False.elim kq
theorem rr (a : Addr) : L2.RelV (.ref a) (.ref a) := rfl
theorem in1_frames (A : Around) : A.in1.frames = A.frames := rfl
/-- the type of a value, read -/
theorem ty_looks {x : V} {u t : Value} {pins : List (Addr × Obj)} {σ : L2.St} {H : Hp} {s : Shared} (iv : Inv X pins σ H s) (rx : RelV x u) (ty : TyX X.K H x t) : PySem.W.Looks (model X.prog X.w) s.heap (typeOf u) t := by
  obtain ⟨P, Z, p, hx⟩ := kit_of iv rx ty
  exact Z.ty _ _ iv.kIn p
/-- what the class's == (own __eq__, object's __ne__) asks -/
structure EqC (K : PySem.W.Frag) (C f : Addr) : Prop where
  eq : PySem.W.findIn K (.ref C) "__eq__" = some (some (.ref f))
  fn : PySem.W.isFn K (.ref f) = true
  ne : PySem.W.findIn K (.ref C) "__ne__" = some (some (.builtin "object.__ne__"))
  mo : PySem.W.mroIn K C (.type "object") = some true
/-- a == b by the own __eq__ of a -/
def rEqO (K : PySem.W.Frag) (C : Addr) (sp : Sp) (E : XK) (g : Bool → Bool) : R2 := fun x y H Q => ∃ a dx fs t, x = .ref a ∧ H a = some (.ins C dx fs) ∧ TyX K H y t ∧ PySem.W.notFirst K C t = true ∧ sp [x, y] H (fun z H' => ∃ b, z = .bl b ∧ Q (.bl (g b)) H') E
theorem op_eqO (T : EqC X.K C f) (F : FnOk X.prog X.w X.K X.mg X.base CX k f fd ps sp) (hr : Room (k + 1) X.A) (hb : Binds X.K fd ps []) (hx : Passes CX X E) : OpR X (compareOp .Eq) (rEqO X.K C sp E id) := by
  intro pins s σ H x y v u Q iv rx ry kq
  obtain ⟨a, dx, fs, t, rfl, ha, ty, hn, q⟩ := kq
  cases rx
  obtain ⟨mo, jv, _⟩ := ins_get iv.hok ha
  obtain ⟨od, jv, _⟩ := jv.look
  obtain ⟨m, hF⟩ := iv.fr
  show wpAny (model X.prog X.w) X.A (richCompare .Eq (.ref a) u) (EP X pins σ Q) X.xe s
  refine PySem.W.cmp_K (op := .Eq) (tb := t) hr.units0 hF iv.ok.mod.kin jv (ty_looks iv ry ty) hn T.eq T.fn ?_
  refine wpAny_mono (run_in F (hr.mono (Nat.le_succ k)) rfl hb hx iv (.cons (rr a) (.cons ry .nil)) q) (fun z s' h => ?_) fun _ _ z => z
  obtain ⟨z', H', I', rz, b, ez, qz⟩ := h
  subst ez
  cases rz
  exact ⟨.bl b, H', I', rfl, qz⟩
theorem op_neO (T : EqC X.K C f) (F : FnOk X.prog X.w X.K X.mg X.base CX k f fd ps sp) (hr : Room (k + 1) X.A) (hb : Binds X.K fd ps []) (hx : Passes CX X E) : OpR X (compareOp .NotEq) (rEqO X.K C sp E not) := by
  intro pins s σ H x y v u Q iv rx ry kq
  obtain ⟨a, dx, fs, t, rfl, ha, ty, hn, q⟩ := kq
  cases rx
  obtain ⟨mo, jv, _⟩ := ins_get iv.hok ha
  obtain ⟨od, jv, _⟩ := jv.look
  show wpAny (model X.prog X.w) X.A (richCompare .NotEq (.ref a) u) (EP X pins σ Q) X.xe s
  refine AWR.ne_K (tb := t) (hu_of hr) iv.kIn jv (ty_looks iv ry ty) hn T.ne T.mo T.eq T.fn ?_
  refine wpAny_mono (run_in F hr.in1 (in1_frames _) hb hx iv (.cons (rr a) (.cons ry .nil)) q) (fun z s' h => ?_) fun _ _ z => z
  obtain ⟨z', H', I', rz, b, ez, qz⟩ := h
  subst ez
  cases rz
  exact ⟨b, rfl, .bl (!b), H', I', rfl, qz⟩
/-- a op b by a's own method, b of the same class or of a built-in one -/
inductive RtOk (K : PySem.W.Frag) (C : Addr) (op : Operator) : Value → Prop where
  | same : RtOk K C op (.ref C)
  | ty {n : String} {r1 r2 : Option Value} (h1 : PySem.W.findIn K (.type n) (PySem.dunder op.info.2) = some r1) (h2 : PySem.W.findIn K (.type n) (PySem.dunderR op.info.2) = some r2) (hs : PySem.W.subIn K (.type n) (.ref C) = some false) : RtOk K C op (.type n)
structure OpC (K : PySem.W.Frag) (C f : Addr) (op : Operator) : Prop where
  self : PySem.W.selfFirst K C = true
  bop : PySem.W.findIn K (.ref C) (PySem.dunder op.info.2) = some (some (.ref f))
  rop : PySem.W.findIn K (.ref C) (PySem.dunderR op.info.2) = some none
  fn : PySem.W.isFn K (.ref f) = true
def rOpO (K : PySem.W.Frag) (C : Addr) (op : Operator) (sp : Sp) (E : XK) : R2 := fun x y H Q => ∃ a dx fs t, x = .ref a ∧ H a = some (.ins C dx fs) ∧ TyX K H y t ∧ RtOk K C op t ∧ sp [x, y] H Q E
theorem op_ownO {op : Operator} (T : OpC X.K C f op) (F : FnOk X.prog X.w X.K X.mg X.base CX k f fd ps sp) (hr : Room k X.A) (hb : Binds X.K fd ps []) (hx : Passes CX X E) : OpR X (binaryOp op) (rOpO X.K C op sp E) := by
  intro pins s σ H x y v u Q iv rx ry kq
  obtain ⟨a, dx, fs, t, rfl, ha, ty, rt, q⟩ := kq
  cases rx
  obtain ⟨mo, jv, _⟩ := ins_get iv.hok ha
  obtain ⟨od, jv, _⟩ := jv.look
  obtain ⟨m, hF⟩ := iv.fr
  have L := ty_looks iv ry ty
  have go : wpAny (model X.prog X.w) X.A (call (.ref f) [.ref a, u]) (PySem.W.CmpBack (EP X pins σ Q)) X.xe s :=
    wpAny_mono (run_in F hr rfl hb hx iv (.cons (rr a) (.cons ry .nil)) q) (fun z s' h => by
      obtain ⟨z', H', I', rz, qz⟩ := h
      exact SlX.cmpback rz ⟨z', H', I', rz, qz⟩) fun _ _ z => z
  cases rt with
  | same => exact PySem.W.binop_K hF iv.ok.mod.kin jv L T.self T.bop T.fn go
  | ty h1 h2 hs => exact AWR.binop_ty iv.kIn jv L T.self T.bop T.rop T.fn h1 h2 hs go
/-- ~a by a's own method -/
def rUnO (C : Addr) (sp : Sp) (E : XK) : V → Hp → VK → Prop := fun x H Q => ∃ a dx fs, x = .ref a ∧ H a = some (.ins C dx fs) ∧ sp [x] H Q E
theorem un_invO (hs : PySem.W.findIn X.K (.ref C) "__invert__" = some (some (.ref f))) (hf : PySem.W.isFn X.K (.ref f) = true) (F : FnOk X.prog X.w X.K X.mg X.base CX k f fd ps sp) (hr : Room k X.A) (hb : Binds X.K fd ps []) (hx : Passes CX X E) : UnR X (unaryOp .Invert) (rUnO C sp E) := by
  intro pins s σ H x v Q iv rx kq
  obtain ⟨a, dx, fs, rfl, ha, q⟩ := kq
  cases rx
  obtain ⟨mo, jv, _⟩ := ins_get iv.hok ha
  obtain ⟨od, jv, _⟩ := jv.look
  obtain ⟨m, hF⟩ := iv.fr
  exact PySem.W.ksp_inv hF iv.ok.mod.kin jv hs hf (run_in F hr rfl hb hx iv (.cons (rr a) .nil) q)
end
end AW

set_option linter.all false
set_option maxRecDepth 100000
set_option maxHeartbeats 4000000
/-! several except clauses, each with a name -/
namespace AW
open PySem PySem.Spec PyProof.Rows L2
abbrev Clause := Value × Nat × (Addr → Value → Option Addr → TS)
/-- behind a suite the clause's name is gone -/
def unD (D : Ends) (i : Nat) : Ends := { nx := fun σ' H' => D.nx (σ'.set i none) H', rt := D.rt, bk := fun σ' H' => D.bk (σ'.set i none) H', ct := fun σ' H' => D.ct (σ'.set i none) H' }
def wManyA (K : PySem.W.Frag) (Wout : WX) (D : Ends) : List Clause → WX
  | [] => Wout
  | (c, i, ts) :: r => fun cls d σ H => ∃ b, PySem.W.exmOne K cls c = some b ∧ (b = true → ∀ a, H a = none → ts a cls d (unD D i) (σ.set i (some (.ref a))) H) ∧ (b = false → wManyA K Wout D r cls d σ H)
inductive HdsOkA (X : Cx) : List ExceptHandler → List Clause → Prop
  | nil : HdsOkA X [] []
  | cons {x n : Str} {c : Value} {i : Nat} {ts : Addr → Value → Option Addr → TS} {b₀ : Stmt} {suite : List Stmt} {np pos' : Pos} {hds : List ExceptHandler} {l : List Clause} (hi : X.N[i]? = some n) (hln : X.env.kindOf n = some .local) (hc : Names X x c)
      (hsu : ∀ (a : Addr) (oe : Obj) (cls : Value) (d : Option Addr) (pn : List (Addr × Obj)), Zc cls d oe → (∃ vs, oe.data = .fields vs) → PSs (X.suite a ((a, oe) :: pn)) (b₀ :: suite) (ts a cls d)) (r : HdsOkA X hds l) :
      HdsOkA X (.ExceptHandler (some (.Name x np)) (some n) (b₀ :: suite) pos' :: hds) ((c, i, ts) :: l)
section
variable {X : Cx} {body : List Stmt} {h₀ : ExceptHandler} {hds : List ExceptHandler} {l : List Clause} {pos : Pos} {tb : WX → TS} {Wout : WX}
theorem ps_try_manyA (hs : X.stack = X.env :: X.outer) (hf : X.env.frame = some X.env.locals) (hN : X.N.Nodup) (tk : Takes X Wout)
    (hb : ∀ (W : WX) (pn : List (Addr × Obj)) (xe : Value → Shared → Prop), Takes (X.tr pn xe) W → PassesOwn (model X.prog X.w) X.A X.env xe → PSs (X.tr pn xe) body (tb W))
    (hh : HdsOkA X (h₀ :: hds) l) : PS X (.Try body (h₀ :: hds) [] [] pos) (fun D σ H => tb (wManyA X.K Wout D l) D σ H) := by
  refine ⟨fun pn0 s σ H D iv h => ?_⟩
  have okI := iv.ok
  have hFrames : X.A.frames = some (X.env :: X.outer) := by rw [okI.frames, hs]
  refine wpAny_Try_except ?_
  refine wpAny_mono ((hb (wManyA X.K Wout D l) (X.pn ++ pn0) (fun e s₁ => wpAny (model X.prog X.w) X.A (noteFrame e X.env) (fun _ s₂ => wpAny (model X.prog X.w) X.A (setFlight e none) (fun _ s₃ =>
    wpAny (model X.prog X.w) X.A (handleBy e X.env (h₀ :: hds)) (SP X pn0 D) X.xe s₃) X.xe s₂) X.xe s₁) (fun u s' xx => ?_) PassesOwn.looking).run [] s σ H D (iv.toTry _) h) (fun f s1 endp => ?_) (fun e s1 he => he)
  · obtain ⟨a, B, sI, pins', σ', H', cls, d, rfl, jw, nb, up, skA, na, os, ag, w⟩ := xx
    have jv : Inv X pn0 σ' H' sI := jw.ofTry okI
    have skB : Sky B (X.env :: X.outer) a (Zc cls d) X.env.locals s'.heap := by rw [← hs]; exact skA
    show wpAny (model X.prog X.w) X.A (noteFrame (.ref a) X.env) _ _ _
    refine Sky.land Zc.steady hFrames hf skB fun hpC flC upC => ?_
    have jC : Inv X pn0 σ' H' { s' with heap := hpC } := jv.landed nb flC.1 (up.trans upC) os ag
    obtain ⟨obC, vlC, heC, hzC, hdC⟩ := flC.there
    have frNot : ∀ {h : Heap} {o : Obj} {vs : Array Value}, h.FunFrames B (X.env :: X.outer) → h.get? a = some o → o.data = .fields vs → a ∉ frs (X.env :: X.outer) := fun {h o vs} ff e dd hmm => by
      obtain ⟨_, o', e', hnf⟩ := ff.mem hmm
      rw [e] at e'; cases e'
      exact hnf _ dd
    have frA := frNot flC.2.2.1 heC hdC
    have neL : a ≠ X.env.locals := fun z => frA (List.mem_filterMap.mpr ⟨X.env, List.mem_cons_self, by rw [hf, z]⟩)
    have neF : a ∉ X.fs := fun hmm => by
      obtain ⟨e, he, q⟩ := List.mem_filterMap.mp hmm
      exact frA (List.mem_filterMap.mpr ⟨e, List.mem_cons_of_mem _ he, q⟩)
    have suC := jC.suite heC hdC na neL neF
    have walk : ∀ {hds' : List ExceptHandler} {l' : List Clause}, HdsOkA X hds' l' → wManyA X.K Wout D l' cls d σ' H' →
        wpAny (model X.prog X.w) X.A (handleBy (.ref a) X.env hds') (SP X pn0 D) X.xe { s' with heap := hpC } := by
      intro hds' l' hk
      induction hk with
      | nil =>
        intro w
        refine wpAny_handleBy_nil ?_
        obtain ⟨k1, k2, k3, oe, vs, T, oT, ts', he, hz, hd, h1, hr⟩ := id flC
        unfold PySem.passOn
        refine wpAny_bind (wpAny_field he hd h1 ?_)
        rw [if_neg (show ¬ ((Value.ref T == Value.none) = true) from by simp)]
        have out : wpAny (model X.prog X.w) X.A (setFlight (.ref a) X.env.frame) (fun _ s4 => wpAny (model X.prog X.w) X.A (throw (.ref a) : Sem Flow) (SP X pn0 D) X.xe s4) X.xe { s' with heap := hpC } := by
          rw [hf]
          refine HandSPX.setFlight_upZ flC fun hpD hh4 upD => wpAny_throw (tk _ _ ?_)
          exact ⟨a, B, sI, pn0, σ', H', cls, d, rfl, jv, nb, (up.trans upC).trans upD, .inr (.inr (by rw [hs]; exact hh4)), na, os, ag, w⟩
        first
          | exact wpAny_bind (wpAny_pure (wpAny_bind out))
          | exact wpAny_bind out
      | @cons x n c i ts b₀ suite np pos' hds2 l2 hi hln hc hsu r ih =>
        intro w
        obtain ⟨b, hb1, hyes, hno⟩ := w
        have hloc : Loc X.env.scope n := .inl hln
        refine wpAny_handleBy_cons (codeAny_handlers_test ?_) (by intro q; cases q)
        have lkT : PySem.W.Looks (model X.prog X.w) hpC (typeOf (.ref a)) cls := fun A Q E s k q => wpAny_typeOf_ref (k _ _ heC) (by rw [hzC.1]; exact q)
        have lkM := PySem.W.exm_one (M := model X.prog X.w) (jC.kIn) lkT hb1
        have test : ∀ {Q : Value → Shared → Prop} {E : Value → Shared → Prop}, Q c { s' with heap := hpC } → wpAny (model X.prog X.w) (X.A.mark (some (.ref a))) (eval (.Name x np) X.env) Q E { s' with heap := hpC } := fun {Q E} q => by
          obtain ⟨hg, hdbg, hmm | ⟨hmm, hv, hnn⟩⟩ := hc
          · exact ld_glob (X := X.suite a ((a, obC) :: (X.pn ++ pn0))) suC hg hmm q hdbg
          · exact ld_blt (X := X.suite a ((a, obC) :: (X.pn ++ pn0))) suC hg hmm hv q hnn hdbg
        refine test (lkM.here ?_)
        cases b with
        | true =>
          refine codeAny_handlers_suite_as ?_
          refine HandSPX.lands_againZ flC fun hpD flD upD => ?_
          have jD : Inv X pn0 σ' H' { s' with heap := hpD } := jv.landed nb flD.1 ((up.trans upC).trans upD) os ag
          obtain ⟨obD, vlD, heD, hzD, hdD⟩ := flD.there
          have suD := jD.suite heD hdD na neL neF
          refine store_ok (X := X.suite a ((a, obD) :: (X.pn ++ pn0))) (v := .ref a) suD hN hi hloc rfl (fun shE suE => ?_) (.inr hln)
          refine wpAny_mono ((hsu a obD cls d (X.pn ++ pn0) hzD ⟨_, hdD⟩).run [] shE _ H' _ suE (hyes rfl a na)) (fun f shF endp => ?_) (fun _ _ z => False.elim z)
          have end_ : ∀ {stF : L2.St} {hpF : Hp} {Q : Shared → Prop}, Inv (X.suite a ((a, obD) :: (X.pn ++ pn0))) [] stF hpF shF → (∀ shG, Inv X pn0 (stF.set i none) hpF shG → Q shG) →
              wpAny (model X.prog X.w) X.A (do bindName X.env n .none; unbindBehindTheSuite X.env n pos') (fun _ shG => Q shG) X.xe shF := fun {stF hpF Q} suF hq => gone_ok (suF.unsuite okI) hN hi hln hq
          cases f with
          | next =>
            obtain ⟨stF, hpF, suF, qF⟩ := endp
            exact end_ suF fun shG jG => ⟨_, _, jG, qF⟩
          | brk =>
            obtain ⟨stF, hpF, suF, qF⟩ := endp
            exact end_ suF fun shG jG => ⟨_, _, jG, qF⟩
          | cont =>
            obtain ⟨stF, hpF, suF, qF⟩ := endp
            exact end_ suF fun shG jG => ⟨_, _, jG, qF⟩
          | ret u =>
            obtain ⟨vF, stF, hpF, suF, rF, qF⟩ := endp
            exact end_ suF fun shG jG => ⟨_, _, _, jG, rF, qF⟩
        | false =>
          show wpAny _ X.A (handleBy (.ref a) X.env hds2) _ _ _
          exact ih (hno rfl)
    exact walk hh w
  · cases f with
    | next =>
      obtain ⟨σ', H', jw, q⟩ := endp
      exact wpAny_execs_nil ⟨σ', H', jw.ofTry okI, q⟩
    | brk =>
      obtain ⟨σ', H', jw, q⟩ := endp
      exact ⟨σ', H', jw.ofTry okI, q⟩
    | cont =>
      obtain ⟨σ', H', jw, q⟩ := endp
      exact ⟨σ', H', jw.ofTry okI, q⟩
    | ret u =>
      obtain ⟨v, σ', H', jw, r, q⟩ := endp
      exact ⟨v, σ', H', jw.ofTry okI, r, q⟩
end
end AW

set_option linter.all false
set_option maxRecDepth 100000
set_option maxHeartbeats 4000000
/-! lambdas that are kept: made in one place, handed on later -/
namespace AW
open PySem PySem.Spec PyProof.Rows L2 LamX
/-- the function object of a lambda at f, its code object at d -/
def LamO (q : Str) (ar : Arguments) (bd : Expr) (sc : Scope) (cl : List (Str × Addr)) (f d : Addr) : HO :=
  .ext fun g => ∃ (u v : Value), g.get? f = some (PySem.W.kla_obj "<lambda>" q ar bd sc cl u d v)
theorem lamO_tbl {q : Str} {ar : Arguments} {bd : Expr} {sc : Scope} {cl : List (Str × Addr)} {f d : Addr} (ps : Array Value) : LamO q ar bd sc cl f d ≠ .tbl ps := fun z => by
  unfold LamO at z
  cases z
section
variable {X : Cx} {pins : List (Addr × Obj)} {σ : L2.St} {H HZ : Hp} {s s1 : Shared}
theorem nofr_new (I : Inv X pins σ H s) {f : Addr} (hf : s.heap.objs.size ≤ f) : f ∉ frs X.stack := fun z => by
  rcases List.mem_cons.mp (I.stkSub _ z) with e | e
  · have q := I.lt
    rw [← e] at q
    exact Nat.lt_irrefl _ (Nat.lt_of_lt_of_le q hf)
  · exact I.nofs hf e
abbrev lamq (X : Cx) : Str := X.env.qual ++ "<lambda>"
/-- the table at P has told the code object d, or tells it now -/
def Grown (P : Addr) (q : Str) (d : Addr) (H H1 : Hp) : Prop := (∃ (ps : Array Value) (pos : Pos), H P = some (.tbl ps) ∧ codeAmong pos ps.toList = some (.ref d) ∧ H1 = H) ∨
  (∃ (ps : Array Value) (pos : Pos), H P = some (.tbl ps) ∧ H d = none ∧ H1 = upd (upd H P (.tbl (ps ++ #[rawInt pos.line, rawInt pos.col, .ref d]))) d (CodeO d q))
theorem tabs_grow {T : List (Addr × Str)} {G : Hp} {P d : Addr} {q : Str} {ps : Array Value} {pos : Pos} (hT : Tabs T G) (hm : (P, q) ∈ T) (hu : ∀ p ∈ T, p.1 = P → p.2 = q) (hP : G P = some (.tbl ps)) (nD : G d = none) :
    Tabs T (upd (upd G P (.tbl (ps ++ #[rawInt pos.line, rawInt pos.col, .ref d]))) d (CodeO d q)) := by
  obtain ⟨ps', hP', ht, ha⟩ := hT _ hm
  rw [hP] at hP'
  cases hP'
  have keep : ∀ c r, G c = some (CodeO c r) → upd (upd G P (.tbl (ps ++ #[rawInt pos.line, rawInt pos.col, .ref d]))) d (CodeO d q) c = some (CodeO c r) := fun c r e => by
    have b2 : c ≠ P := fun z => by subst z; rw [hP] at e; exact codeO_ne ps (Option.some.inj e).symm
    rw [upd_ne (ne_of_none e nD), upd_ne b2]
    exact e
  intro p hp
  by_cases hb : p.1 = P
  · rw [hu p hp hb, hb]
    refine ⟨_, by rw [upd_ne (ne_of_none hP nD), upd_same], ?_, fun p' cv hcv => ?_⟩
    · rw [Array.toList_append]
      exact PySem.TriplesOk_snoc _ _ _ _ ht
    · rw [Array.toList_append] at hcv
      rcases among_app _ ht hcv with z | z
      · obtain ⟨c0, z1, z2⟩ := ha p' cv z
        exact ⟨c0, z1, keep _ _ z2⟩
      · exact ⟨d, z, upd_same⟩
  · obtain ⟨ps2, z1, z2, z3⟩ := hT p hp
    refine ⟨ps2, by rw [upd_ne (ne_of_none z1 nD), upd_ne hb]; exact z1, z2, fun p' cv hcv => ?_⟩
    obtain ⟨c0, w1, w2⟩ := z3 p' cv hcv
    exact ⟨c0, w1, keep _ _ w2⟩
theorem lam_kept {T : List (Addr × Str)} {c P : Addr} {ar : Arguments} {bd : Expr} {sc : Scope} {pos : Pos} {E Q : Value → Shared → Prop} (I : Inv X pins σ H s) (TB : TabB X.base X.mg c P) (hc0 : X.env.code = .ref c)
    (hm : (P, lamq X) ∈ T) (hT : Tabs T H) (hdef : defaultsOf ar X.env = ([], [])) (hfr : ∀ y ∈ sc.names, y.2 = .free → ∃ c, X.env.cells.lookup y.1 = some c)
    (h : ∀ (f d : Addr) (H1 : Hp) (s' : Shared), Inv X pins σ (upd H1 f (LamO (lamq X) ar bd sc (cloFrom X.env.cells sc.names []) f d)) s' → Grown P (lamq X) d H H1 → H1 f = none → Q (.ref f) s') :
    wpAny (model X.prog X.w) X.A (eval (.Lambda ar bd sc pos) X.env) Q E s := by
  obtain ⟨ps, hP, ht, ha⟩ := hT _ hm
  have bP := TB.bm.keeps I.bk
  have hP2 : s.heap.get? P = some { cls := .none, data := .fields ps } := I.hok P _ hP
  -- the object laid behind all others
  have lay : ∀ (H1 : Hp) (g : Heap) (tk : Nat) (d : Addr) (m v : Value), Inv X pins σ H1 { s with heap := g, toks := tk } → Grown P (lamq X) d H H1 →
      Q (.ref g.objs.size) { s with heap := g.push (PySem.W.kla_obj "<lambda>" (lamq X) ar bd sc (cloFrom X.env.cells sc.names []) m d v), toks := tk } := fun H1 g tk d m v J e1 =>
    h g.objs.size d H1 _ (J.laid (t' := tk) (fun b o e => Heap.get?_push_of_some _ e) (Nat.le_refl _)
      ⟨⟨m, v, Heap.get?_push_size _ rfl⟩, ⟨_, Heap.get?_push_size _ rfl⟩, fun g1 g2 ⟨u1, u2, k⟩ st => ⟨u1, u2, st _ k⟩⟩) e1 (J.hok.fresh (Nat.le_refl _))
  refine PySem.W.kla_eval hdef ?_
  cases hcod : codeAmong pos ps.toList with
  | some cv =>
    obtain ⟨d, ed, hd⟩ := ha pos cv hcod
    subst ed
    refine PySem.W.kla_makeFunctionHit (mg := X.mg) (c := c) (P := P) (ps := ps) (closure_ok hfr) I.ok.glob (I.mod.glob.keeps I.bk) hc0 (TB.code.keeps I.bk) hP2 ht hcod bP fun v g tk hx hsz => ?_
    exact lay H g tk d _ v (I.kept fun b o e => hx b o e) (.inl ⟨ps, pos, hP, hcod, rfl⟩)
  | none =>
    refine PySem.W.kla_makeFunction (mg := X.mg) (c := c) (P := P) (ps := ps) (closure_ok hfr) I.ok.glob (I.mod.glob.keeps I.bk) hc0 (TB.code.keeps I.bk) hP2 ht hcod TB.gP bP fun d v g tk hx hge hlt hrec htb => ?_
    obtain ⟨d2, oc, vs, t, e2, k1, k2, k3⟩ := hrec
    cases e2
    have nD : H d = none := I.hok.fresh hge
    have J := inv_table (t' := tk) (more := #[rawInt pos.line, rawInt pos.col, .ref d]) (h' := g) I hP (fun b o hb e => hx b o hb e) htb hge ⟨oc, vs, t, k1, k2, k3⟩
    exact lay _ g tk d _ v J (.inr ⟨ps, pos, hP, nD, rfl⟩)
/-- the reading of a lambda that is kept -/
def tLamV (T : List (Addr × Str)) (P : Addr) (q : Str) (mk : Addr → Addr → HO) : TE := fun _ H Q => Tabs T H ∧ ∀ f d H1, Grown P q d H H1 → H1 f = none → Q (.ref f) (upd H1 f (mk f d))
theorem pe_lamval {T : List (Addr × Str)} {c P : Addr} {ar : Arguments} {bd : Expr} {sc : Scope} {pos : Pos} (TB : TabB X.base X.mg c P) (hc0 : X.env.code = .ref c) (hm : (P, lamq X) ∈ T)
    (L : LamS X.env.scope sc) (hdef : defaultsOf ar X.env = ([], [])) : PE X (.Lambda ar bd sc pos) (tLamV T P (lamq X) (LamO (lamq X) ar bd sc (cloFrom X.env.cells sc.names []))) :=
  ⟨fun pins s σ H Q I ⟨hT, k⟩ => lam_kept I TB hc0 hm hT hdef (L.has I.ok) fun f d H1 s' J g n1 => ⟨.ref f, _, J, rfl, k f d H1 g n1⟩⟩
/-- a kept lambda is called by the def that got it -/
theorem act_kept {CXg : CXT} {Eg : XK} {Ng : List Str} {qg : Str} {sg : Scope} {g f d : Addr} {cdg : Value} {ar : Arguments} {bd : Expr} {sc : Scope} {k i : Nat} {a : Str} {pn : List (Addr × Obj)} {xe : Value → Shared → Prop} {W : WX} {E : XK} {tb : TE} {p1 p2 : Pos}
    (I : Inv X pins σ H s) (L : LamS X.env.scope sc)
    (hbind : ∀ (cl : List (Str × Addr)) (pm cv ctv : Value), bindArgs (PySem.W.kla_fn "<lambda>" (lamq X) ar bd sc cl pm cv ctv) ⟨[], []⟩ = pure [])
    (tk : Takes ((cxOf CXg X.prog X.w X.K X.mg X.base Ng qg sg g cdg X.A X.stack s H Eg).tr pn xe) W) (hW : ∀ cls x σ' H', E cls x H' → W cls x σ' H') (hr : Room (k + 1) (X.A.deeper (envOfC qg sg s.heap.objs.size g cdg)))
    (hbody : ∀ (A : Around) (outer : List Env) (s : Shared) (H : Hp), Room k (A.deeper (lamEnv X sc s.heap.objs.size f d)) → PE (lamCx X A outer s H E sc f d) bd tb)
    (hN : Ng[i]? = some a) (hv : Vis sg a) (hd : (a == ("__debug__" : Str)) = false) (hcd : (a == ("__classdict__" : Str)) = false) :
    PE ((cxOf CXg X.prog X.w X.K X.mg X.base Ng qg sg g cdg X.A X.stack s H Eg).tr pn xe) (.Call (.Name a p1) [] [] p2)
      (fun σZ HZ Q => σZ[i]? = some (some (.ref f)) ∧ HZ f = some (LamO (lamq X) ar bd sc (cloFrom X.env.cells sc.names []) f d) ∧ HZ d = some (CodeO d (lamq X)) ∧ tb σ HZ Q) := by
  refine ⟨fun pz sz σz HZ Q J ⟨g1, g2, g3, g4⟩ => ?_⟩
  have ld := (pe_var (pos := p1) (i := i) hN hv hd hcd).run pz sz σz HZ (fun v H1 => v = .ref f ∧ H1 = HZ) J ⟨.ref f, g1, rfl, rfl⟩
  refine wpAny_Call_Name_kw (thn ld fun u s2 ⟨v, H1, J1, r1, ev, eH⟩ => ?_)
  subst ev
  subst eH
  obtain rfl : u = Value.ref f := r1
  obtain ⟨⟨pm, ctv, obj⟩, _, _⟩ := J1.hok f _ g2
  obtain ⟨⟨oc, vs, t, co1, co2, co3⟩, _, _⟩ := J1.hok d _ g3
  refine PySem.W.callWith_F0 ⟨_, _, _, _, obj⟩ ?_
  have u1 : Un (frs X.stack) [] H H1 s.heap s2.heap := J1.base
  have e1 := J1.env0
  have run : codeAny (model X.prog X.w) (X.A.deeper (envOfC qg sg s.heap.objs.size g cdg)) (.call (.ref f) ⟨[], []⟩) (CR (L2.CX X.prog X.w) (envOfC qg sg s.heap.objs.size g cdg :: X.stack) X.prog X.w H1 s2 Q E) s2 := by
    refine PySem.W.kla_callFunE hr.depth obj rfl L.co L.gen rfl ⟨d, oc, vs, t, rfl, co1, co2, co3⟩ ?_
    rw [hbind]
    refine wpAny_pure (wpAny_newFunctionEnv (fun y hy => (L.own y hy).2) (fun y hy => nomatch hy) (fun h1 q1 q2 => ⟨J1.nolimit.fresh _ q2, ?_⟩) L.kind)
    have kp : ∀ b o, s2.heap.get? b = some o → h1.get? b = some o := fun b o e => by
      refine q2.extBut b o ?_ (Heap.get?_push_of_some _ e)
      exact Nat.ne_of_lt (Heap.lt_size e)
    have st := lam_start2 (A := X.A.deeper (envOfC qg sg s.heap.objs.size g cdg)) (outer := envOfC qg sg s.heap.objs.size g cdg :: X.stack) (E := E) (f := f) (c' := d) (tk := s2.toks + ([] : List (Str × Value)).length) I L e1 hr.hd u1 q1 kp
    refine PySem.W.kla_codeExpr (wpAny_mono ((hbody _ _ s2 H1 (hr.deeper _)).run [] _ _ H1 Q st g4) ?_ fun e s' z => z)
    rintro v s' ⟨w', H', J', rv, z⟩
    exact ⟨w', H', J'.os, J'.bare, J'.base, J'.hok, rv, z⟩
  have ps := passes_call tk hW
  refine wpAny_call (codeAny_mono run fun r s' z => ?_)
  match r, z with
  | .error e, z => exact ps pz σz H1 s2 e s' J1 z
  | .ok (.ret u), z => exact J1.after z
/-- a def that calls the kept lambda it got -/
def GivesK (X : Cx) (Ng : List Str) (x : Str) (sg : Scope) (g : Addr) (cdg : Value) (bg : List Stmt) (a : Str) (q : Str) (mk : Addr → Addr → HO) (TT : (XK → Hp → VK → Prop) → Hp → VK → Prop) : Prop :=
  ∀ (f d : Addr) (s : Shared) (H : Hp) (Q : VK) (tl : XK → Hp → VK → Prop),
    (∀ (W : WX) (pn : List (Addr × Obj)) (xe : Value → Shared → Prop) (E : XK) (p1 p2 : Pos), Takes ((cxOf C8.CX0 X.prog X.w X.K X.mg X.base Ng x sg g cdg X.A X.stack s H C8.E0).tr pn xe) W → (∀ cls d σ' H', E cls d H' → W cls d σ' H') →
      PE ((cxOf C8.CX0 X.prog X.w X.K X.mg X.base Ng x sg g cdg X.A X.stack s H C8.E0).tr pn xe) (.Call (.Name a p1) [] [] p2)
        (fun σZ HZ Q => σZ[0]? = some (some (.ref f)) ∧ HZ f = some (mk f d) ∧ HZ d = some (CodeO d q) ∧ tl E HZ Q)) →
    H f = some (mk f d) → H d = some (CodeO d q) → TT tl H Q →
    ∃ t, PSs (cxOf C8.CX0 X.prog X.w X.K X.mg X.base Ng x sg g cdg X.A X.stack s H C8.E0).nox bg t ∧ t { nx := fun _ H' => Q .non H', rt := Q } (L2.start Ng [.ref f]) H
/-- x(y), y a kept lambda -/
def tCallK (j : Nat) (q : Str) (mk : Addr → Addr → HO) (TT : (XK → Hp → VK → Prop) → Hp → VK → Prop) (t : XK → TE) : TE := fun σ H Q =>
  ∃ f d, σ[j]? = some (some (.ref f)) ∧ H f = some (mk f d) ∧ H d = some (CodeO d q) ∧ TT (fun E H' Q' => t E σ H' Q') H Q
theorem pe_callK {TT : (XK → Hp → VK → Prop) → Hp → VK → Prop} {x a y : Str} {g : Addr} {k j : Nat} {pg : Arguments} {bg : List Stmt} {sg : Scope} {dV kV doc pm cdv ct oc : Value} {an od : Option Addr} {osl : Array (Option Value)} {Ng : List Str}
    {ar : Arguments} {bd : Expr} {sc : Scope} {t : XK → TE} {p py pos : Pos} (hg : Gl X x) (hm : X.mg x = some (.ref g)) (hk : PySem.W.keepIn X.K (.ref g) = true)
    (lk : X.K.lookup g = some ⟨oc, od, .func (PySem.W.fnOf x x pg bg sg dV kV doc pm an cdv ct), osl⟩) (hcg : PySem.W.codeIn X.K cdv x = true) (hb : L2.Binds X.K (PySem.W.fnOf x x pg bg sg dV kV doc pm an cdv ct) [a] []) (Sg : FnScope Ng [a] sg) (hNg : Ng[0]? = some a) (hva : Vis sg a)
    (hG : GivesK X Ng x sg g cdv bg a (lamq X) (LamO (lamq X) ar bd sc (cloFrom X.env.cells sc.names [])) TT)
    (hr : Room (k + 2) X.A) (L : LamS X.env.scope sc)
    (hbind : ∀ (q : Str) (cl : List (Str × Addr)) (pm cv ctv : Value), bindArgs (PySem.W.kla_fn "<lambda>" q ar bd sc cl pm cv ctv) ⟨[], []⟩ = pure [])
    (hy : PE X (.Name y py) (tVar j))
    (hbody : ∀ (A : Around) (outer : List Env) (s : Shared) (H : Hp) (E : XK) (f d : Addr), Room k (A.deeper (lamEnv X sc s.heap.objs.size f d)) → PE (lamCx X A outer s H E sc f d) bd (t E))
    (hdb : (x == ("__debug__" : Str)) = false := by decide) (hd : (a == ("__debug__" : Str)) = false := by decide) (hcd : (a == ("__classdict__" : Str)) = false := by decide) :
    PE X (.Call (.Name x p) [.Name y py] [] pos) (tCallK j (lamq X) (LamO (lamq X) ar bd sc (cloFrom X.env.cells sc.names [])) TT t) := by
  refine ⟨fun pins s σ H Q I ⟨f, d, g1, g2, g3, g4⟩ => ?_⟩
  refine wpAny_Call_Name_kw (ld_glob I hg hm ?_ hdb)
  refine PySem.W.callWith_K (h₀ := X.base) I.ok.mod.kin hk ?_ (by rfl) (by rfl)
  refine Calls.spliced_cons (thn (hy.run pins s σ H (fun v H1 => v = .ref f ∧ H1 = H) I ⟨.ref f, g1, rfl, rfl⟩) fun u s2 ⟨v, H1, J, r1, ev, eH⟩ => ?_)
  subst ev
  subst eH
  obtain rfl : u = Value.ref f := r1
  refine Calls.spliced_nil ⟨J.kIn, ?_⟩
  have run : codeAny (model X.prog X.w) X.A (.call (.ref g) ⟨[.ref f], []⟩) (CR C8.CX0 X.stack X.prog X.w H1 s2 Q C8.E0) s2 := by
    refine run_ofS (N := Ng) (ps := [a]) (us := [.ref f]) (vs := [.ref f]) lk hcg Sg hr J.env0 (hb s2 [.ref f] J.kIn rfl) (.cons rfl .nil) rfl fun hr2 => ?_
    obtain ⟨t2, ht, hq⟩ := hG f d s2 H1 Q (fun E H' Q' => t E σ H' Q') (fun W pn xe E p1 p2 tk hW => act_kept (i := 0) J L (fun cl pm cv ctv => hbind _ cl pm cv ctv) tk hW hr2 (fun A outer s H hr3 => hbody A outer s H E f d hr3) hNg hva hd hcd) g2 g3 g4
    exact ⟨t2, ht.nox, hq⟩
  refine wpAny_call (codeAny_mono run fun r s' z => ?_)
  match r, z with
  | .error e, z => exact (show False from z).elim
  | .ok (.ret u), z => exact J.after z
end
end AW

set_option linter.all false
set_option maxRecDepth 100000
set_option maxHeartbeats 4000000
/-! a list comprehension whose element may look at its maker's own state; kept lambdas called there -/
namespace AW
open PySem PySem.Spec PyProof.Rows L2 LamX
section
variable {X : Cx}
abbrev cEnv (X : Cx) (sc : Scope) (n : Nat) : Env := compEnvC sc (cellsFrom (n + 1) sc.names (cloFrom X.env.cells sc.names [])) n X.env
theorem pe_lcI {elt tg iter : Expr} {sc : Scope} {own : List (Str × Nat)} {pos : Pos} {wi : TI} {g : TG} {te : TE} (calm : X.calm = true) (hN : X.N.Nodup) (hi : PI X tg iter wi) (ok : BlkOk X.N X.env.scope sc own)
    (hg : ∀ (s : Shared) (H : Hp) (C : Addr) (cl : List (Str × Addr)) (fp : List Addr), PG (X.blk s H sc (compEnvC sc cl C X.env) fp) tg g)
    (he : ∀ (pins : List (Addr × Obj)) (σ : L2.St) (s : Shared) (H : Hp) (C : Addr) (cl : List (Str × Addr)) (fp : List Addr), Inv X pins σ H s → (∀ b ∈ fp, FpOk X pins H b) →
      PE (X.blk s H sc (compEnvC sc cl C X.env) fp) elt (fun σ' H' Q' => wipe σ' (own.map (·.2)) = wipe σ (own.map (·.2)) ∧ te σ' H' Q'))
    (hs : ∀ x, foldedSetIterable iter X.env x = pure x := by intro _; rfl) :
    PE X (.ListComp elt [⟨tg, iter, [], 0⟩] sc pos) (tLc wi g tYes te (own.map (·.2))) := by
  refine ⟨fun pins s σ H Q I h => ?_⟩
  have fr : ∀ y ∈ sc.names, y.2 = .free → ∃ c, X.env.cells.lookup y.1 = some c := fun y hy e =>
    (ok.free y hy e).elim (fun k => I.ok.has _ (.inl k)) fun k => I.ok.has _ (.inr k)
  rw [eval_ListComp]
  refine wpAny_comprehension_free rfl hs (closure_ok fr) ok.kind (fun y hy e => by rw [ok.uniq y hy, e]) ?_
  refine thn (hi.run pins s σ H _ I h) fun _ sa ha => thn ha fun _ sb hb => ?_
  obtain ⟨it, fp, tn, J, Hb, eit, Ib, T, stb, fb, q⟩ := hb
  subst eit
  refine wpAny_newObj_type (newEnv_comp ?_) (Nat.zero_le _)
  obtain ⟨D, eD⟩ : ∃ D, sb.heap.objs.size = D := ⟨_, rfl⟩
  rw [eD]
  have nD : Hb D = none := Ib.hok.fresh (Nat.le_of_eq eD)
  obtain ⟨W, ⟨m0, w0⟩, turn⟩ := q D nD
  generalize e3 : ({ sb with heap := sb.heap.push { cls := .type "list", data := .seq ([] : List Value).toArray } } : Shared) = sc3
  have hp3 : sc3.heap = sb.heap.push { cls := .type "list", data := .seq ([] : List Value).toArray } := by rw [← e3]
  have kp3 : ∀ b o, sb.heap.get? b = some o → sc3.heap.get? b = some o := fun b o e => by
    rw [hp3]
    exact Heap.get?_push_of_some _ e
  have Ic : Inv X pins σ (upd Hb D (.lst [])) sc3 := by
    subst e3
    refine Ib.laid (t' := sb.toks) (fun b o e => Heap.get?_push_of_some _ e) (Nat.le_of_eq eD) ⟨Nat.zero_le _, [], 0, .nil, ?_⟩
    subst eD
    exact Heap.get?_push_size _ rfl
  have fc : ∀ b ∈ fp, FpOk X pins (upd Hb D (.lst [])) b ∧ b < sc3.heap.objs.size := fun b hb => by
    obtain ⟨o, eo, _⟩ := T.obj _ _ stb b hb
    have lt := Heap.lt_size eo
    refine ⟨⟨?_, (fb b hb).2⟩, ?_⟩
    · rw [upd_ne (Nat.ne_of_lt (eD ▸ lt))]
      exact (fb b hb).1
    · rw [hp3, Heap.size_push]
      exact Nat.lt_succ_of_lt lt
  have stc : tn 0 sc3.heap := T.keep _ _ _ stb fun b _ o e => kp3 b o e
  have Id := block_start Ic ok hN fc
  have pg := hg sc3 (upd Hb D (.lst [])) sc3.heap.objs.size (cellsFrom (sc3.heap.objs.size + 1) sc.names (cloFrom X.env.cells sc.names [])) fp
  have pe := he pins σ sc3 (upd Hb D (.lst [])) sc3.heap.objs.size (cellsFrom (sc3.heap.objs.size + 1) sc.names (cloFrom X.env.cells sc.names [])) fp Ic (fun b hb => (fc b hb).1)
  have std : tn 0 (pushCells (sc3.heap.push { cls := .type "dict", data := .dict #[] }) sc.names) := T.keep _ _ _ stc fun b _ o e => pushCells_keeps _ _ _ _ (Heap.get?_push_of_some _ e)
  have fin : ∀ (Hz : Hp) (sz : Shared), Inv (X.blk sc3 (upd Hb D (.lst [])) sc (cEnv X sc sc3.heap.objs.size) fp) [] (wipe σ (own.map (·.2))) Hz sz → Q (.ref D) Hz →
      compPost (model X.prog X.w) X.A X.xe none (EP X pins σ Q) (.ref D) sc3.heap.objs.size (.ok .next) sz := fun Hz sz J qz => by
    have back : Inv X pins σ Hz sz := Ic.call' (ch := fp) J.os J.base J.hok J.bare fun b hb => by
      obtain ⟨_, z1, z2, z3, z4, z5⟩ := (fc b hb).1
      exact ⟨z3, z1, z4, z5⟩
    have nC : Hz sc3.heap.objs.size = none := J.free
    obtain ⟨m, hn, _⟩ := J.loc
    obtain ⟨_, z1, z2, z3, z4, z5⟩ := Ic.fpOk (Nat.le_refl _) nC
    exact ⟨m, hn, fun h2 sb2 => ⟨.ref D, Hz, back.turned (t' := sz.toks) (fun b o hb e => (sb2.2 b hb).trans e) nC z1 z3 z4 z5, rfl, qz⟩⟩
  have nfp : ∀ b ∈ fp, (upd Hb D (.lst [])) b = none := fun b hb => (fc b hb).1.1
  obtain ⟨ce, ece⟩ : ∃ z, cEnv X sc sc3.heap.objs.size = z := ⟨_, rfl⟩
  show codeAny _ _ (.compStart (.ListComp elt [⟨tg, iter, [], 0⟩] sc pos) 0 (.ref it) (.ref D) (cEnv X sc sc3.heap.objs.size)) _ _
  rw [show compEnvC sc (cellsFrom (sc3.heap.objs.size + 1) sc.names (cloFrom X.env.cells sc.names [])) sc3.heap.objs.size X.env = ce from ece] at Id pg pe
  rw [ece] at fin ⊢
  obtain ⟨Hc, eHc⟩ : ∃ z, upd Hb D (.lst []) = z := ⟨_, rfl⟩
  rw [eHc] at Ic Id pg pe w0 nfp fc fin
  obtain ⟨sd, esd⟩ : ∃ z : Shared, ({ sc3 with heap := pushCells (sc3.heap.push { cls := .type "dict", data := .dict #[] }) sc.names } : Shared) = z := ⟨_, rfl⟩
  rw [esd] at Id
  have std' : tn 0 sd.heap := by
    rw [← esd]
    exact std
  have own' : ∀ {σ' : L2.St} {H' : Hp} {s' : Shared} {pn : List (Addr × Obj)}, Inv (X.blk sc3 Hc sc ce fp) pn σ' H' s' → pn = [] → (∀ b ∈ fp, H' b = none) → ∀ b ∈ fp, FpOk (X.blk sc3 Hc sc ce fp) pn H' b := fun {σ' H' s' pn} J ep nz b hb => by
    subst ep
    have ex := J.ok.exf b hb
    exact ⟨nz b hb, ex.1, J.ok.exfs b hb, .inl hb, fun x c e => ex.2 x c e, fun p hp => nomatch (show p ∈ ([] : List (Addr × Obj)) from hp)⟩
  have loop : codeAny (model X.prog X.w) X.A (.compLoop (.ListComp elt [⟨tg, iter, [], 0⟩] sc pos) 0 (.ref it) (.ref D) ce) (compPost (model X.prog X.w) X.A X.xe none (EP X pins σ Q) (.ref D) sc3.heap.objs.size) sd := by
    refine compLoop_any (fun n s' => ∃ i H', Inv (X.blk sc3 Hc sc ce fp) [] (wipe σ (own.map (·.2))) H' s' ∧ tn i s'.heap ∧ (∀ b ∈ fp, H' b = none) ∧ W i n H') ?_ m0 ⟨0, Hc, Id, std', nfp, w0⟩
    rintro n s5 ⟨i, H5, J5, t5, n5, w5⟩
    rcases turn i n H5 w5 with ⟨stop, qq⟩ | ⟨go, Nx, hNx, step⟩
    · refine thnF (T.done (X.blk sc3 Hc sc ce fp) rfl rfl rfl calm i [] s5 _ H5 (fun _ _ => False) J5 (own' J5 rfl n5) t5 stop) fun r s6 ⟨er, J6⟩ => ?_
      subst er
      exact fin H5 s6 J6 qq
    · refine thnF (T.item (X.blk sc3 Hc sc ce fp) rfl rfl rfl calm i [] s5 _ H5 (fun _ _ => False) J5 (own' J5 rfl n5) t5 go) fun r s6 ⟨u, er, h6⟩ => ?_
      subst er
      refine thnF h6 fun _ s7 ⟨x, H7, J7, r7, y7, t7, n7⟩ => ?_
      have J7p := J7.pinned (own' J7 rfl n7) (T.obj _ _ t7)
      refine thnF (pg.run _ s7 _ H7 x u _ J7p r7 (step x H7 y7)) fun _ s8 ⟨σ8, H8, J8, hw8, q8⟩ => ?_
      refine thnF ((pts_nil (X := X.blk sc3 Hc sc ce fp)).run _ s8 σ8 H8 _ J8 q8) fun b s9 ⟨H9, J9, q9⟩ => ?_
      have next : ∀ (s' : Shared) (H' : Hp), Inv (X.blk sc3 Hc sc ce fp) ([] ++ pinsAt fp s7.heap) σ8 H' s' → Nx H' → ∃ m, m < n ∧ ∃ i H', Inv (X.blk sc3 Hc sc ce fp) [] (wipe σ (own.map (·.2))) H' s' ∧ tn i s'.heap ∧ (∀ b ∈ fp, H' b = none) ∧ W i m H' := fun s' H' J nx => by
        obtain ⟨m', lt, w'⟩ := hNx H' nx
        have at_ : ∀ b ∈ fp, ∀ o, s7.heap.get? b = some o → s'.heap.get? b = some o ∧ H' b = none := fun b hb o e => by
          have z := J.pin (b, o) (List.mem_append_right _ (List.mem_append_right _ (mem_pinsAt hb e)))
          exact ⟨z.1, z.2.1⟩
        refine ⟨m', lt, i + 1, H', (J.unpinned (pins := [])).weak (by rw [← hw8, wipe_length]) (fun j v e => ?_), T.keep _ _ _ t7 (fun b hb o e => (at_ b hb o e).1), (fun b hb => ?_), w'⟩
        · rw [← hw8] at e
          exact (wipe_some e).1
        · obtain ⟨o, e, _⟩ := T.obj _ _ t7 b hb
          exact (at_ b hb o e).2
      match b, q9 with
      | false, q9 =>
        rw [if_neg Bool.false_ne_true] at q9 ⊢
        exact next s9 H9 J9 q9
      | true, q9 =>
        rw [if_pos rfl] at q9 ⊢
        refine thnF (pe.run _ s9 σ8 H9 _ J9 ⟨hw8, q9⟩) fun z s10 ⟨yv, H10, J10, r10, acc, h10, z10, nx⟩ => ?_
        exact app_ok (X := X.blk sc3 Hc sc ce fp) J10 h10 z10 r10 fun s11 J11 => next s11 _ J11 nx
  rw [esd]
  exact codeAny_compStart_list loop (T.self X.A 0 _ _ _ std' loop)
/-- x(y) in a comprehension's block, y a lambda that the block's maker keeps; the lambda sees the maker's state -/
def tCallB (j : Nat) (vs : List Nat) (q : Str) (mk : Addr → Addr → HO) (TT : (XK → Hp → VK → Prop) → Hp → VK → Prop) (t : XK → TE) : TE := fun σ H Q =>
  ∃ f d, σ[j]? = some (some (.ref f)) ∧ H f = some (mk f d) ∧ H d = some (CodeO d q) ∧ TT (fun E H' Q' => t E (wipe σ vs) H' Q') H Q
theorem pe_callBl {pins0 : List (Addr × Obj)} {σ0 : L2.St} {s0 : Shared} {H0 : Hp} {C : Addr} {cl : List (Str × Addr)} {fp : List Addr} {scb : Scope} {vs : List Nat} (I0 : Inv X pins0 σ0 H0 s0) (hfp : ∀ b ∈ fp, FpOk X pins0 H0 b)
    {TT : (XK → Hp → VK → Prop) → Hp → VK → Prop} {x a y : Str} {g : Addr} {k j : Nat} {pg : Arguments} {bg : List Stmt} {sg : Scope} {dV kV doc pm cdv ct oc : Value} {an od : Option Addr} {osl : Array (Option Value)} {Ng : List Str}
    {ar : Arguments} {bd : Expr} {sc : Scope} {t : XK → TE} {p py pos : Pos} (hg : Gl (X.blk s0 H0 scb (compEnvC scb cl C X.env) fp) x) (hm : X.mg x = some (.ref g)) (hk : PySem.W.keepIn X.K (.ref g) = true)
    (lk : X.K.lookup g = some ⟨oc, od, .func (PySem.W.fnOf x x pg bg sg dV kV doc pm an cdv ct), osl⟩) (hcg : PySem.W.codeIn X.K cdv x = true) (hb : L2.Binds X.K (PySem.W.fnOf x x pg bg sg dV kV doc pm an cdv ct) [a] []) (Sg : FnScope Ng [a] sg) (hNg : Ng[0]? = some a) (hva : Vis sg a)
    (hG : GivesK X Ng x sg g cdv bg a (lamq X) (LamO (lamq X) ar bd sc (cloFrom X.env.cells sc.names [])) TT)
    (hr : Room (k + 2) X.A) (L : LamS X.env.scope sc)
    (hbind : ∀ (q : Str) (cl : List (Str × Addr)) (pm cv ctv : Value), bindArgs (PySem.W.kla_fn "<lambda>" q ar bd sc cl pm cv ctv) ⟨[], []⟩ = pure [])
    (hy : PE (X.blk s0 H0 scb (compEnvC scb cl C X.env) fp) (.Name y py) (tVar j))
    (hbody : ∀ (A : Around) (outer : List Env) (s : Shared) (H : Hp) (E : XK) (f d : Addr), Room k (A.deeper (lamEnv X sc s.heap.objs.size f d)) → PE (lamCx X A outer s H E sc f d) bd (t E))
    (hdb : (x == ("__debug__" : Str)) = false := by decide) (hd : (a == ("__debug__" : Str)) = false := by decide) (hcd : (a == ("__classdict__" : Str)) = false := by decide) :
    PE (X.blk s0 H0 scb (compEnvC scb cl C X.env) fp) (.Call (.Name x p) [.Name y py] [] pos)
      (fun σ' H' Q' => wipe σ' vs = wipe σ0 vs ∧ tCallB j vs (lamq X) (LamO (lamq X) ar bd sc (cloFrom X.env.cells sc.names [])) TT t σ' H' Q') := by
  refine ⟨fun pins s σ H Q I ⟨hw, f, d, g1, g2, g3, g4⟩ => ?_⟩
  refine wpAny_Call_Name_kw (ld_glob I hg hm ?_ hdb)
  refine PySem.W.callWith_K (h₀ := X.base) I.ok.mod.kin hk ?_ (by rfl) (by rfl)
  have ld := hy.run pins s σ H (fun v H1 => v = .ref f ∧ H1 = H) I ⟨.ref f, g1, rfl, rfl⟩
  refine Calls.spliced_cons (thn ld fun u s2 ⟨v, H1, J, r1, ev, eH⟩ => ?_)
  subst ev
  subst eH
  obtain rfl : u = Value.ref f := r1
  refine Calls.spliced_nil ⟨J.kIn, ?_⟩
  have mk0 : Inv X pins0 σ0 H1 s2 := I0.call' (ch := fp) J.os J.base J.hok J.bare fun b hb => by
    obtain ⟨_, z1, z2, z3, z4, z5⟩ := hfp b hb
    exact ⟨z3, z1, z4, z5⟩
  have mk1 : Inv X pins0 (wipe σ vs) H1 s2 := mk0.weak (by rw [hw, wipe_length]) fun i v e => by
    rw [hw] at e
    exact (wipe_some e).1
  have run : codeAny (model X.prog X.w) X.A (.call (.ref g) ⟨[.ref f], []⟩) (CR C8.CX0 X.stack X.prog X.w H1 s2 Q C8.E0) s2 := by
    refine run_ofS (N := Ng) (ps := [a]) (us := [.ref f]) (vs := [.ref f]) lk hcg Sg hr J.env0 (hb s2 [.ref f] J.kIn rfl) (.cons rfl .nil) rfl fun hr2 => ?_
    obtain ⟨t2, ht, hq⟩ := hG f d s2 H1 Q (fun E H' Q' => t E (wipe σ vs) H' Q') (fun W pn xe E p1 p2 tk hW => act_kept (i := 0) mk1 L (fun cl pm cv ctv => hbind _ cl pm cv ctv) tk hW hr2 (fun A outer s H hr3 => hbody A outer s H E f d hr3) hNg hva hd hcd) g2 g3 g4
    exact ⟨t2, ht.nox, hq⟩
  refine wpAny_call (codeAny_mono run fun r s' z => ?_)
  match r, z with
  | .error e, z => exact (show False from z).elim
  | .ok (.ret u), z => exact J.after z
/-- a lambda in a statement, by its parts -/
def lamE : Expr → Expr
  | .List (e :: _) _ => e
  | .Call _ (e :: _) _ _ => e
  | e => e
def lamSt : Stmt → Expr
  | .Assign _ v _ => lamE v
  | .Expr v _ => lamE v
  | .Return (some v) _ => lamE v
  | _ => .Name "" ⟨0, 0, 0, 0⟩
def lamAr : Expr → Arguments → Arguments
  | .Lambda a _ _ _, _ => a
  | _, a => a
def lamBd : Expr → Expr
  | .Lambda _ b _ _ => b
  | e => e
def lamSco : Expr → Scope → Scope
  | .Lambda _ _ c _, _ => c
  | _, c => c
/-- either of two readings -/
theorem pe_orW {e : Expr} {t u : TE} {w : L2.St → Prop} (h1 : PE X e (fun σ H Q => w σ ∧ t σ H Q)) (h2 : PE X e (fun σ H Q => w σ ∧ u σ H Q)) : PE X e (fun σ H Q => w σ ∧ (t σ H Q ∨ u σ H Q)) :=
  ⟨fun pins s σ H Q I h => h.2.elim (fun z => h1.run pins s σ H Q I ⟨h.1, z⟩) fun z => h2.run pins s σ H Q I ⟨h.1, z⟩⟩
end
end AW

set_option linter.all false
set_option maxRecDepth 100000
set_option maxHeartbeats 4000000
/-! a lambda made and handed on at once -/
namespace AW
open PySem PySem.Spec PyProof.Rows L2 LamX
section
variable {X : Cx}
def tLamA (T : List (Addr × Str)) (P : Addr) (q : Str) (mk : Addr → Addr → HO) (TT : (XK → Hp → VK → Prop) → Hp → VK → Prop) (t : XK → TE) : TE := fun σ H Q =>
  Tabs T H ∧ ∀ f d H1, Grown P q d H H1 → H1 f = none → TT (fun E H' Q' => t E σ H' Q') (upd H1 f (mk f d)) Q
theorem pe_lamarg {T : List (Addr × Str)} {TT : (XK → Hp → VK → Prop) → Hp → VK → Prop} {x a : Str} {g c P : Addr} {k : Nat} {pg : Arguments} {bg : List Stmt} {sg : Scope} {dV kV doc pm cdv ct oc : Value} {an od : Option Addr} {osl : Array (Option Value)} {Ng : List Str}
    {ar : Arguments} {bd : Expr} {sc : Scope} {t : XK → TE} {p lpos pos : Pos} (hg : Gl X x) (hm : X.mg x = some (.ref g)) (hk : PySem.W.keepIn X.K (.ref g) = true)
    (lk : X.K.lookup g = some ⟨oc, od, .func (PySem.W.fnOf x x pg bg sg dV kV doc pm an cdv ct), osl⟩) (hcg : PySem.W.codeIn X.K cdv x = true) (hb : L2.Binds X.K (PySem.W.fnOf x x pg bg sg dV kV doc pm an cdv ct) [a] []) (Sg : FnScope Ng [a] sg) (hNg : Ng[0]? = some a) (hva : Vis sg a)
    (hG : GivesK X Ng x sg g cdv bg a (lamq X) (LamO (lamq X) ar bd sc (cloFrom X.env.cells sc.names [])) TT)
    (TB : TabB X.base X.mg c P) (hc0 : X.env.code = .ref c) (hmT : (P, lamq X) ∈ T) (hr : Room (k + 2) X.A) (L : LamS X.env.scope sc) (hdef : defaultsOf ar X.env = ([], []))
    (hbind : ∀ (q : Str) (cl : List (Str × Addr)) (pm cv ctv : Value), bindArgs (PySem.W.kla_fn "<lambda>" q ar bd sc cl pm cv ctv) ⟨[], []⟩ = pure [])
    (hbody : ∀ (A : Around) (outer : List Env) (s : Shared) (H : Hp) (E : XK) (f d : Addr), Room k (A.deeper (lamEnv X sc s.heap.objs.size f d)) → PE (lamCx X A outer s H E sc f d) bd (t E))
    (hdb : (x == ("__debug__" : Str)) = false := by decide) (hd : (a == ("__debug__" : Str)) = false := by decide) (hcd : (a == ("__classdict__" : Str)) = false := by decide) :
    PE X (.Call (.Name x p) [.Lambda ar bd sc lpos] [] pos) (tLamA T P (lamq X) (LamO (lamq X) ar bd sc (cloFrom X.env.cells sc.names [])) TT t) := by
  refine ⟨fun pins s σ H Q I ⟨hT, h⟩ => ?_⟩
  refine wpAny_Call_Name_kw (ld_glob I hg hm ?_ hdb)
  refine PySem.W.callWith_K (h₀ := X.base) I.ok.mod.kin hk ?_ (by rfl) (by rfl)
  refine Calls.spliced_cons (lam_kept I TB hc0 hmT hT hdef (L.has I.ok) fun f d H1 s2 J gr n1 => ?_)
  refine Calls.spliced_nil ⟨J.kIn, ?_⟩
  have nd : d ≠ f := by
    intro z
    subst z
    rcases gr with ⟨ps, pos', e1, e2, e3⟩ | ⟨ps, pos', e1, e2, e3⟩
    · subst e3
      obtain ⟨ps2, k1, _, k3⟩ := hT _ hmT
      rw [e1] at k1
      cases k1
      obtain ⟨c2, k4, k5⟩ := k3 _ _ e2
      cases k4
      rw [k5] at n1
      cases n1
    · subst e3
      rw [upd_same] at n1
      cases n1
  have kd : upd H1 f (LamO (lamq X) ar bd sc (cloFrom X.env.cells sc.names []) f d) d = some (CodeO d (lamq X)) := by
    rw [upd_ne nd]
    rcases gr with ⟨ps, pos', e1, e2, e3⟩ | ⟨ps, pos', e1, e2, e3⟩
    · subst e3
      obtain ⟨ps2, k1, _, k3⟩ := hT _ hmT
      rw [e1] at k1
      cases k1
      obtain ⟨c2, k4, k5⟩ := k3 _ _ e2
      cases k4
      exact k5
    · subst e3
      exact upd_same
  have run : codeAny (model X.prog X.w) X.A (.call (.ref g) ⟨[.ref f], []⟩) (CR C8.CX0 X.stack X.prog X.w (upd H1 f (LamO (lamq X) ar bd sc (cloFrom X.env.cells sc.names []) f d)) s2 Q C8.E0) s2 := by
    refine run_ofS (N := Ng) (ps := [a]) (us := [.ref f]) (vs := [.ref f]) lk hcg Sg hr J.env0 (hb s2 [.ref f] J.kIn rfl) (.cons rfl .nil) rfl fun hr2 => ?_
    obtain ⟨t2, ht, hq⟩ := hG f d s2 _ Q (fun E H' Q' => t E σ H' Q') (fun W pn xe E p1 p2 tk hW => act_kept (i := 0) J L (fun cl pm cv ctv => hbind _ cl pm cv ctv) tk hW hr2 (fun A outer s H hr3 => hbody A outer s H E f d hr3) hNg hva hd hcd) upd_same kd (h f d H1 gr n1)
    exact ⟨t2, ht.nox, hq⟩
  refine wpAny_call (codeAny_mono run fun r s' z => ?_)
  match r, z with
  | .error e, z => exact (show False from z).elim
  | .ok (.ret u), z => exact J.after z
end
/-- a tuple of the text -/
theorem relV_of_abs {u : Value} {x : V} (h : absV u = some x) : RelV x u := by
  cases u <;> simp only [absV, Option.some.injEq, reduceCtorEq] at h <;> subst h <;> first | rfl | exact ⟨_, rfl⟩
theorem vals_of_abs : ∀ {us : List Value} {xs : List V}, us.map absV = xs.map some → Vals xs us
  | [], [], _ => .nil
  | [], _ :: _, h => nomatch h
  | _ :: _, [], h => nomatch h
  | u :: us, x :: xs, h => by
    rw [List.map_cons, List.map_cons, List.cons.injEq] at h
    exact .cons (relV_of_abs h.1) (vals_of_abs h.2)
theorem sqT_const {K : PySem.W.Frag} {H : Hp} {a : Addr} {od : Option Addr} {its : Array Value} {n : Nat} {sl : Array (Option Value)} {xs : List V} (lk : K.lookup a = some ⟨.type "tuple", od, .seq its n, sl⟩) (h : its.toList.map absV = xs.map some) (hl : xs.length ≤ sizeLine) : SqT K H a xs :=
  .inr ⟨_, its, n, lk, rfl, rfl, by
    have e := congrArg List.length h
    rw [List.length_map, List.length_map, Array.length_toList] at e
    omega, vals_of_abs h⟩
end AW

set_option linter.all false
set_option maxRecDepth 100000
set_option maxHeartbeats 4000000
namespace AW
open PySem PySem.Spec PyProof.Rows L2
/-- X(), X an own exception class without own __init__ -/
theorem pmk_own0 {X : Cx} {C : Addr} {bmB : List Value} {B newId initId : String} {x : Str} {p pos : Pos} (F : ExcBaseFacts B newId initId bmB) (q : PySem.W.excIn X.K C bmB newId = true) (gC : X.mg x = some (.ref C))
    (kC : PySem.W.keepIn X.K (.ref C) = true) (r : Raises X (.ref C)) (hg : Gl X x) (hdb : (x == ("__debug__" : Str)) = false := by decide) : PMk X (.Call (.Name x p) [] [] pos) (fun _ H Q => Q (.ref C) none H) := by
  intro pins s σ H Q I h
  refine wpAny_Call_Name_kw (ld_glob I hg gC ?_ hdb)
  refine PySem.W.callWith_K0 I.kIn kC ?_
  show wpAny _ _ (call (.ref C) []) _ _ _
  obtain ⟨bm, N, nm, qn, bs, hdct, sn, sub, ab, col, dd, k0, k1, k2, k3, k5, mN, hC, hN, hni, T⟩ := exc_obj I.kIn q
  refine wpAny_call_exc_subT F T hC hN hni (fun h' e hm => ?_) (Nat.zero_le _)
  exact mk_of I hm r h (I.hok.gone hm.new)
/-! gcd of three numbers -/
theorem args3_gcd (a b c : Value) : argsOk "math.gcd" ⟨[a, b, c], []⟩ := by unfold argsOk; kernel_rfl
theorem run3_gcd (a b c : Int) (t u v : Tok) : Gives (Builtin.«math.gcd» ⟨[.int a t, .int b u, .int c v], []⟩) (.int (((((Nat.gcd 0 a.natAbs).gcd b.natAbs).gcd c.natAbs : Nat) : Int))) :=
  .of_wp fun M A E s Q h => by
    obtain ⟨hp, g, d, tk, os⟩ := s
    wp_walk
    exact ⟨_, rfl, h⟩
def rGcd3 : List V → Hp → VK → Prop := fun vs H Q => ∃ a b c : Int, vs = [.int a, .int b, .int c] ∧ Q (.int (((a.natAbs.gcd b.natAbs).gcd c.natAbs : Nat) : Int)) H
theorem cr_gcd3 {X : Cx} : CallR X (.builtin "math.gcd") rGcd3 := by
  intro pins s σ H vs us Q I r h
  obtain ⟨a, b, c, rfl, q⟩ := h
  match us, r with
  | [_, _, _], .cons h1 (.cons h2 (.cons h3 .nil)) =>
    obtain ⟨t, rfl⟩ := h1
    obtain ⟨u, rfl⟩ := h2
    obtain ⟨v, rfl⟩ := h3
    have g := run3_gcd a b c t u v
    rw [Nat.gcd_zero_left] at g
    exact PySem.call_function_meets PySem.W.MGF.kind_gcd PySem.W.MGF.plain_gcd PySem.W.MGF.entry_gcd (args3_gcd _ _ _) g.meets ⟨.int _, H, I.tok _, ⟨_, rfl⟩, q⟩
end AW

set_option linter.all false
set_option maxRecDepth 100000
set_option maxHeartbeats 4000000
/-! The data layer: values as data, without addresses. -/
namespace AW
open PySem PySem.Spec PyProof.Rows L2 LamX
/-- the tables of the lambdas, of a law's text -/
class Tbs where
  T : List (Addr × Str)
inductive D where
  | non | bl (b : Bool) | int (i : Int) | str (x : Str)
  | tup (ds : List D) | lst (ds : List D)
  | ins (C : Addr) (ns : List Str) (ds : List D)
  | pen (k l : Str)
  | scr (ns : List Int)
  | val (v : V)
  | lam (q : Str) (mk : Addr → Addr → HO)
  | at_ (u : V) (d : D)
  | edk
def penE (k l : Str) (c : Addr) (s r : Int) : List (Key × V) := [(Sum.inr "cells", .ref c), (Sum.inr k, .int s), (Sum.inr l, .int r)]
def IsPen (o : HO) : Prop := (∃ k l c s r, o = .dK (penE k l c s r)) ∨ ∃ ps, o = .tbl ps
variable [Tbs]
section
variable (K : PySem.W.Frag) (G : Hp) (B : Int)
mutual
def Rep : D → V → Prop
  | .non, v => v = .non
  | .bl b, v => v = .bl b
  | .int i, v => v = .int i
  | .str x, v => v = .str x
  | .tup ds, v => ∃ a vs, v = .ref a ∧ SqT K G a vs ∧ RepL ds vs
  | .lst ds, v => ∃ a vs, v = .ref a ∧ G a = some (.lst vs) ∧ RepL ds vs
  | .ins C ns ds, v => ∃ a dx vs, v = .ref a ∧ G a = some (.ins C dx (ns.zip vs)) ∧ ns.length = vs.length ∧ RepL ds vs
  | .pen k l, v => Tabs Tbs.T G ∧ ∃ (a c : Addr) (ns : List Int) (s r : Int), v = .ref a ∧ G a = some (.dK (penE k l c s r)) ∧ G c = some (.lst (ns.map V.int)) ∧ ns.length ≤ 63 ∧ 0 ≤ s ∧ s ≤ B
  | .val u, v => v = u
  | .at_ u d, v => v = u ∧ Rep d v
  | .edk, v => ∃ a, v = .ref a ∧ G a = some (.dK [])
  | .lam q mk, v => ∃ f d, v = .ref f ∧ G f = some (mk f d) ∧ G d = some (CodeO d q) ∧ ¬ IsPen (mk f d)
  | .scr ns, v => Tabs Tbs.T G ∧ ∃ a, v = .ref a ∧ SqL K G a ((ns : List Int).map V.int)
def RepL : List D → List V → Prop
  | [], vs => vs = []
  | d :: ds, vs => ∃ v r, vs = v :: r ∧ Rep d v ∧ RepL ds r
end
end
def Sub (G H : Hp) : Prop := ∀ a o, G a = some o → H a = some o
structure Le (G : Hp) (B : Int) (G' : Hp) (B' : Int) : Prop where
  b : B ≤ B'
  keep : ∀ a o, G a = some o → ¬ IsPen o → G' a = some o
  pen : ∀ a k l c s r, G a = some (.dK (penE k l c s r)) → ∃ s' r', G' a = some (.dK (penE k l c s' r')) ∧ (0 ≤ s → s ≤ B → 0 ≤ s' ∧ s' ≤ B')
  tb : Tabs Tbs.T G → Tabs Tbs.T G'
theorem Le.refl (G : Hp) (B : Int) : Le G B G B := ⟨Int.le_refl _, fun _ _ h _ => h, fun _ _ _ _ s r h => ⟨s, r, h, fun a b => ⟨a, b⟩⟩, fun h => h⟩
theorem Le.trans {G G1 G2 : Hp} {B B1 B2 : Int} (a : Le G B G1 B1) (b : Le G1 B1 G2 B2) : Le G B G2 B2 :=
  ⟨Int.le_trans a.b b.b, fun c o h n => b.keep c o (a.keep c o h n) n, fun c k l q s r h => by
    obtain ⟨s1, r1, h1, k1⟩ := a.pen c k l q s r h
    obtain ⟨s2, r2, h2, k2⟩ := b.pen c k l q s1 r1 h1
    exact ⟨s2, r2, h2, fun x y => k2 (k1 x y).1 (k1 x y).2⟩, fun h => b.tb (a.tb h)⟩
theorem Le.of_sub {G H : Hp} {B B' : Int} (s : Sub G H) (b : B ≤ B') : Le G B H B' := ⟨b, fun a o h _ => s a o h, fun a k l c z r h => ⟨z, r, s _ _ h, fun x y => ⟨x, Int.le_trans y b⟩⟩, fun h => h.ext s⟩
theorem nopen_tup {xs : List V} : ¬ IsPen (.tup xs) := fun h => by
  rcases h with ⟨_, _, _, _, _, h⟩ | ⟨_, h⟩ <;> cases h
theorem nopen_lst {xs : List V} : ¬ IsPen (.lst xs) := fun h => by
  rcases h with ⟨_, _, _, _, _, h⟩ | ⟨_, h⟩ <;> cases h
theorem nopen_ins {C dx : Addr} {fs : List (Str × V)} : ¬ IsPen (.ins C dx fs) := fun h => by
  rcases h with ⟨_, _, _, _, _, h⟩ | ⟨_, h⟩ <;> cases h
theorem nopen_frz {o : Obj} {u : HO} : ¬ IsPen (.frz o u) := fun h => by
  rcases h with ⟨_, _, _, _, _, h⟩ | ⟨_, h⟩ <;> cases h
theorem nopen_edk : ¬ IsPen (.dK []) := fun h => by
  rcases h with ⟨_, _, _, _, _, h⟩ | ⟨_, h⟩ <;> cases h
theorem nopen_code {c : Addr} {q : Str} : ¬ IsPen (CodeO c q) := fun h => by
  unfold CodeO at h
  rcases h with ⟨_, _, _, _, _, h⟩ | ⟨_, h⟩ <;> cases h
theorem nopen_lamO {q : Str} {ar : Arguments} {bd : Expr} {sc : Scope} {cl : List (Str × Addr)} {f d : Addr} : ¬ IsPen (LamO q ar bd sc cl f d) := fun h => by
  unfold LamO at h
  rcases h with ⟨_, _, _, _, _, h⟩ | ⟨_, h⟩ <;> cases h
theorem Le.seqT {K : PySem.W.Frag} {G G' : Hp} {B B' : Int} {a : Addr} {xs : List V} (l : Le G B G' B') (h : SqT K G a xs) : SqT K G' a xs := by
  rcases h with (h | ⟨o, h⟩) | h
  · exact .inl (.inl (l.keep _ _ h nopen_tup))
  · exact .inl (.inr ⟨o, l.keep _ _ h nopen_frz⟩)
  · exact .inr h
theorem Le.seqL {K : PySem.W.Frag} {G G' : Hp} {B B' : Int} {a : Addr} {xs : List V} (l : Le G B G' B') (h : SqL K G a xs) : SqL K G' a xs := by
  rcases h with (h | ⟨o, h⟩) | h
  · exact .inl (.inl (l.keep _ _ h nopen_lst))
  · exact .inl (.inr ⟨o, l.keep _ _ h nopen_frz⟩)
  · exact .inr h
section
variable {K : PySem.W.Frag} {G G' : Hp} {B B' : Int}
mutual
theorem Rep.mono (l : Le G B G' B') : ∀ {d : D} {v : V}, Rep K G B d v → Rep K G' B' d v
  | .non, _, h => h
  | .bl _, _, h => h
  | .int _, _, h => h
  | .str _, _, h => h
  | .tup _, _, ⟨a, vs, e, h, r⟩ => ⟨a, vs, e, l.seqT h, RepL.mono l r⟩
  | .lst _, _, ⟨a, vs, e, h, r⟩ => ⟨a, vs, e, l.keep _ _ h nopen_lst, RepL.mono l r⟩
  | .ins _ _ _, _, ⟨a, dx, vs, e, h, n, r⟩ => ⟨a, dx, vs, e, l.keep _ _ h nopen_ins, n, RepL.mono l r⟩
  | .pen k j, _, ⟨hT, a, c, ns, s, r, e, h, hc, n, h0, h1⟩ => by
    obtain ⟨s', r', h', q⟩ := l.pen a k j c s r h
    exact ⟨l.tb hT, a, c, ns, s', r', e, h', l.keep _ _ hc nopen_lst, n, (q h0 h1).1, (q h0 h1).2⟩
  | .val _, _, h => h
  | .at_ _ _, _, ⟨e, h⟩ => ⟨e, Rep.mono l h⟩
  | .edk, _, ⟨a, e, h⟩ => ⟨a, e, l.keep _ _ h nopen_edk⟩
  | .lam _ _, _, ⟨f, d, e, h1, h2, n⟩ => ⟨f, d, e, l.keep _ _ h1 n, l.keep _ _ h2 nopen_code, n⟩
  | .scr _, _, ⟨hT, a, e, h⟩ => ⟨l.tb hT, a, e, l.seqL h⟩
theorem RepL.mono (l : Le G B G' B') : ∀ {ds : List D} {vs : List V}, RepL K G B ds vs → RepL K G' B' ds vs
  | [], _, h => h
  | _ :: _, _, ⟨v, r, e, h, hr⟩ => ⟨v, r, e, Rep.mono l h, RepL.mono l hr⟩
end
theorem RepL.length : ∀ {ds : List D} {vs : List V}, RepL K G B ds vs → ds.length = vs.length
  | [], _, h => by rw [show _ = _ from h]; rfl
  | _ :: _, _, ⟨v, r, e, h, hr⟩ => by rw [e, List.length_cons, List.length_cons, RepL.length hr]
theorem RepL.get : ∀ {ds : List D} {vs : List V} {i : Nat} {d : D}, RepL K G B ds vs → ds[i]? = some d → ∃ v, vs[i]? = some v ∧ Rep K G B d v
  | [], _, _, _, _, e => by simp at e
  | _ :: _, _, 0, d, ⟨v, r, e, h, hr⟩, q => by
    simp at q; subst q
    exact ⟨v, by rw [e]; rfl, h⟩
  | _ :: _, _, i + 1, d, ⟨v, r, e, h, hr⟩, q => by
    obtain ⟨u, h1, h2⟩ := RepL.get (i := i) hr (by simpa using q)
    exact ⟨u, by rw [e]; simpa using h1, h2⟩
theorem RepL.get' : ∀ {ds : List D} {vs : List V} {i : Nat} {v : V}, RepL K G B ds vs → vs[i]? = some v → ∃ d, ds[i]? = some d ∧ Rep K G B d v
  | [], _, i, _, h, e => by rw [show _ = _ from h] at e; simp at e
  | d :: _, _, 0, v, ⟨u, r, e, h, hr⟩, q => by
    rw [e] at q; simp at q; subst q
    exact ⟨d, rfl, h⟩
  | d :: _, _, i + 1, v, ⟨u, r, e, h, hr⟩, q => by
    rw [e] at q
    obtain ⟨w, h1, h2⟩ := RepL.get' (i := i) hr (by simpa using q)
    exact ⟨w, by simpa using h1, h2⟩
theorem RepL.append : ∀ {ds es : List D} {vs ws : List V}, RepL K G B ds vs → RepL K G B es ws → RepL K G B (ds ++ es) (vs ++ ws)
  | [], _, _, _, h, k => by rw [show _ = _ from h]; exact k
  | _ :: _, _, _, _, ⟨v, r, e, h, hr⟩, k => ⟨v, r ++ _, by rw [e]; rfl, h, RepL.append hr k⟩
theorem RepL.take : ∀ {ds : List D} {vs : List V} (n : Nat), RepL K G B ds vs → RepL K G B (ds.take n) (vs.take n)
  | _, _, 0, _ => by simp [RepL]
  | [], _, n + 1, h => by rw [show _ = _ from h]; simp [RepL]
  | _ :: _, _, n + 1, ⟨v, r, e, h, hr⟩ => ⟨v, r.take n, by rw [e]; rfl, h, RepL.take n hr⟩
theorem RepL.drop : ∀ {ds : List D} {vs : List V} (n : Nat), RepL K G B ds vs → RepL K G B (ds.drop n) (vs.drop n)
  | _, _, 0, h => h
  | [], _, n + 1, h => by rw [show _ = _ from h]; simp [RepL]
  | _ :: _, _, n + 1, ⟨v, r, e, h, hr⟩ => by rw [e]; exact RepL.drop n hr
theorem RepL.ints : ∀ ns : List Int, RepL K G B (ns.map D.int) (ns.map V.int)
  | [] => rfl
  | _ :: r => ⟨_, _, rfl, rfl, RepL.ints r⟩
end
/-- the heap H with its known part G, grown to H' with G' -/
structure Ext (G H : Hp) (B : Int) (G' H' : Hp) (B' : Int) : Prop where
  le : Le G B G' B'
  sub : Sub G' H'
  fr : ∀ a o, H a = some o → G a = none → (∀ ps, o ≠ .tbl ps) → H' a = some o ∧ G' a = none
theorem Ext.refl {G H : Hp} {B : Int} (s : Sub G H) : Ext G H B G H B := ⟨Le.refl _ _, s, fun _ _ h n _ => ⟨h, n⟩⟩
theorem Ext.trans {G H G1 H1 G2 H2 : Hp} {B B1 B2 : Int} (a : Ext G H B G1 H1 B1) (b : Ext G1 H1 B1 G2 H2 B2) : Ext G H B G2 H2 B2 :=
  ⟨a.le.trans b.le, b.sub, fun c o h n t => b.fr c o (a.fr c o h n t).1 (a.fr c o h n t).2 t⟩
/-- a new known object -/
theorem Ext.new {G H : Hp} {B : Int} {p : Addr} {o : HO} (s : Sub G H) (h : H p = none) : Ext G H B (upd G p o) (upd H p o) B := by
  have g : G p = none := by
    cases e : G p with
    | none => rfl
    | some u => rw [s _ _ e] at h; cases h
  refine ⟨Le.of_sub (fun a u e => by rw [upd_ne (ne_of_none e g)]; exact e) (Int.le_refl _), fun a u e => ?_, fun a u e n _ => ?_⟩
  · by_cases q : a = p
    · subst q; rw [upd_same] at e ⊢; exact e
    · rw [upd_ne q] at e ⊢; exact s _ _ e
  · have q := ne_of_none e h
    rw [upd_ne q, upd_ne q]
    exact ⟨e, n⟩
/-- a new object that is not told -/
theorem Ext.hid {G H : Hp} {B : Int} {p : Addr} {o : HO} (s : Sub G H) (h : H p = none) : Ext G H B G (upd H p o) B :=
  ⟨Le.refl _ _, fun a u e => by rw [upd_ne (ne_of_none (s _ _ e) h)]; exact s _ _ e, fun a u e n _ => ⟨by rw [upd_ne (ne_of_none e h)]; exact e, n⟩⟩
def EnvR (K : PySem.W.Frag) (G : Hp) (B : Int) : List (Option D) → L2.St → Prop
  | [], σ => σ = []
  | o :: ρ, σ => ∃ x r, σ = x :: r ∧ (∀ d, o = some d → ∃ v, x = some v ∧ Rep K G B d v) ∧ EnvR K G B ρ r
section
variable {K : PySem.W.Frag} {G G' : Hp} {B B' : Int}
theorem EnvR.mono (l : Le G B G' B') : ∀ {ρ : List (Option D)} {σ : L2.St}, EnvR K G B ρ σ → EnvR K G' B' ρ σ
  | [], _, h => h
  | _ :: _, _, ⟨x, r, e, h, hr⟩ => ⟨x, r, e, fun d q => let ⟨v, h1, h2⟩ := h d q; ⟨v, h1, h2.mono l⟩, EnvR.mono l hr⟩
theorem EnvR.get : ∀ {ρ : List (Option D)} {σ : L2.St} {i : Nat} {d : D}, EnvR K G B ρ σ → ρ[i]? = some (some d) → ∃ v, σ[i]? = some (some v) ∧ Rep K G B d v
  | [], _, _, _, _, e => by simp at e
  | _ :: _, _, 0, d, ⟨x, r, e, h, hr⟩, q => by
    simp at q; subst q
    obtain ⟨v, h1, h2⟩ := h d rfl
    exact ⟨v, by rw [e, h1]; rfl, h2⟩
  | _ :: _, _, i + 1, d, ⟨x, r, e, h, hr⟩, q => by
    obtain ⟨v, h1, h2⟩ := EnvR.get (i := i) hr (by simpa using q)
    exact ⟨v, by rw [e]; simpa using h1, h2⟩
theorem EnvR.set {d : D} {v : V} (hv : Rep K G B d v) : ∀ {ρ : List (Option D)} {σ : L2.St} (i : Nat), EnvR K G B ρ σ → EnvR K G B (ρ.set i (some d)) (σ.set i (some v))
  | [], _, _, h => by rw [show _ = _ from h]; exact rfl
  | _ :: _, _, 0, ⟨x, r, e, h, hr⟩ => ⟨some v, r, by rw [e]; rfl, fun d' q => by cases q; exact ⟨v, rfl, hv⟩, hr⟩
  | _ :: _, _, i + 1, ⟨x, r, e, h, hr⟩ => ⟨x, r.set i (some v), by rw [e]; rfl, h, EnvR.set hv i hr⟩
theorem EnvR.wipe1 : ∀ {ρ : List (Option D)} {σ : L2.St} (i : Nat), EnvR K G B ρ σ → EnvR K G B (ρ.set i none) (σ.set i none)
  | [], _, _, h => by rw [show _ = _ from h]; exact rfl
  | _ :: _, _, 0, ⟨x, r, e, h, hr⟩ => ⟨none, r, by rw [e]; rfl, (fun d' q => by cases q), hr⟩
  | _ :: _, _, i + 1, ⟨x, r, e, h, hr⟩ => ⟨x, r.set i none, by rw [e]; rfl, h, EnvR.wipe1 i hr⟩
theorem EnvR.len : ∀ {ρ : List (Option D)} {σ : L2.St}, EnvR K G B ρ σ → ρ.length = σ.length
  | [], _, h => by rw [show _ = _ from h]; rfl
  | _ :: _, _, ⟨x, r, e, h, hr⟩ => by rw [e, List.length_cons, List.length_cons, EnvR.len hr]
theorem EnvR.of_vals : ∀ {ds : List D} {vs : List V} (n : Nat), RepL K G B ds vs → EnvR K G B (ds.map some ++ List.replicate n none) (vs.map some ++ List.replicate n none)
  | [], _, n, h => by
    rw [show _ = _ from h]
    show EnvR K G B (List.replicate n none) (List.replicate n none)
    induction n with
    | zero => exact rfl
    | succ n ih => exact ⟨none, List.replicate n none, rfl, (fun d q => by cases q), ih⟩
  | d :: _, _, n, ⟨v, r, e, h, hr⟩ => ⟨some v, r.map some ++ List.replicate n none, by rw [e]; rfl, fun d' q => by cases q; exact ⟨v, rfl, h⟩, EnvR.of_vals n hr⟩
end
def wipeD (ρ : List (Option D)) : List Nat → List (Option D)
  | [] => ρ
  | v :: vs => (wipeD ρ vs).set v none
theorem EnvR.wipe {K : PySem.W.Frag} {G : Hp} {B : Int} {ρ : List (Option D)} {σ : L2.St} (h : EnvR K G B ρ σ) : ∀ vs : List Nat, EnvR K G B (wipeD ρ vs) (L2.wipe σ vs)
  | [] => h
  | v :: vs => EnvR.wipe1 v (EnvR.wipe h vs)
def startD (N : List Str) (ds : List D) : List (Option D) := ds.map some ++ List.replicate (N.length - ds.length) none
/-- what is wanted of errors: class, fields, the pens' bound -/
abbrev EW := Addr → Option (List Str × List D) → Int → Prop
def XOk (K : PySem.W.Frag) (E : XK) (e : EW) (G H : Hp) (B : Int) : Prop := ∀ C f B' G' H', e C f B' → Ext G H B G' H' B' →
  match f with
  | none => E (.ref C) none H'
  | some (ns, ds) => ∀ dx vs, H' dx = some (.xd (ns.zip vs)) → ns.length = vs.length → RepL K G' B' ds vs → E (.ref C) (some dx) H'
theorem XOk.ext {K : PySem.W.Frag} {E : XK} {e : EW} {G H G1 H1 : Hp} {B B1 : Int} (x : XOk K E e G H B) (h : Ext G H B G1 H1 B1) : XOk K E e G1 H1 B1 := fun C f B' G' H' q h' => x C f B' G' H' q (h.trans h')
abbrev KD := D → Int → Prop
abbrev KL := List D → Int → Prop
abbrev KE' := List (Option D) → Int → Prop
def KOk (K : PySem.W.Frag) (k : KD) (Q : VK) (G H : Hp) (B : Int) : Prop := ∀ d v B' G' H', k d B' → Ext G H B G' H' B' → Rep K G' B' d v → Q v H'
theorem KOk.ext {K : PySem.W.Frag} {k : KD} {Q : VK} {G H G1 H1 : Hp} {B B1 : Int} (x : KOk K k Q G H B) (h : Ext G H B G1 H1 B1) : KOk K k Q G1 H1 B1 := fun d v B' G' H' q h' => x d v B' G' H' q (h.trans h')
def NOk (K : PySem.W.Frag) (k : KE') (Q : L2.St → Hp → Prop) (G H : Hp) (B : Int) : Prop := ∀ ρ σ B' G' H', k ρ B' → Ext G H B G' H' B' → EnvR K G' B' ρ σ → Q σ H'
theorem NOk.ext {K : PySem.W.Frag} {k : KE'} {Q : L2.St → Hp → Prop} {G H G1 H1 : Hp} {B B1 : Int} (x : NOk K k Q G H B) (h : Ext G H B G1 H1 B1) : NOk K k Q G1 H1 B1 := fun d v B' G' H' q h' => x d v B' G' H' q (h.trans h')
/-- an expression -/
def We (K : PySem.W.Frag) (E : XK) (e : EW) (t : TE) (ρ : List (Option D)) (B : Int) (k : KD) : Prop := ∀ σ H G Q, Sub G H → EnvR K G B ρ σ → XOk K E e G H B → KOk K k Q G H B → t σ H Q
/-- a test -/
def Wt (K : PySem.W.Frag) (E : XK) (e : EW) (t : TT) (ρ : List (Option D)) (B : Int) (k : Bool → Int → Prop) : Prop := ∀ σ H G (Q : Bool → Hp → Prop), Sub G H → EnvR K G B ρ σ → XOk K E e G H B → (∀ b B' G' H', k b B' → Ext G H B G' H' B' → Q b H') → t σ H Q
/-- arguments -/
def Wa (K : PySem.W.Frag) (E : XK) (e : EW) (t : TA) (ρ : List (Option D)) (B : Int) (k : KL) : Prop := ∀ σ H G (Q : List V → Hp → Prop), Sub G H → EnvR K G B ρ σ → XOk K E e G H B → (∀ ds vs B' G' H', k ds B' → Ext G H B G' H' B' → RepL K G' B' ds vs → Q vs H') → t σ H Q
structure KS where
  nx : KE' := fun _ _ => False
  rt : KD
  bk : KE' := fun _ _ => False
  ct : KE' := fun _ _ => False
structure EndsOk (K : PySem.W.Frag) (κ : KS) (Dn : Ends) (G H : Hp) (B : Int) : Prop where
  nx : NOk K κ.nx Dn.nx G H B
  rt : KOk K κ.rt Dn.rt G H B
  bk : NOk K κ.bk Dn.bk G H B
  ct : NOk K κ.ct Dn.ct G H B
theorem EndsOk.ext {K : PySem.W.Frag} {κ : KS} {Dn : Ends} {G H G1 H1 : Hp} {B B1 : Int} (x : EndsOk K κ Dn G H B) (h : Ext G H B G1 H1 B1) : EndsOk K κ Dn G1 H1 B1 := ⟨x.nx.ext h, x.rt.ext h, x.bk.ext h, x.ct.ext h⟩
/-- a statement -/
def Ws (K : PySem.W.Frag) (E : XK) (e : EW) (t : TS) (ρ : List (Option D)) (B : Int) (κ : KS) : Prop := ∀ σ H G Dn, Sub G H → EnvR K G B ρ σ → XOk K E e G H B → EndsOk K κ Dn G H B → t Dn σ H
/-- a target -/
def Wg (K : PySem.W.Frag) (g : TG) (d : D) (ρ : List (Option D)) (B : Int) (k : KE') : Prop := ∀ v σ H G Q, Sub G H → EnvR K G B ρ σ → Rep K G B d v → NOk K k Q G H B → g v σ H Q
def Wgs (K : PySem.W.Frag) (g : TGs) (ds : List D) (ρ : List (Option D)) (B : Int) (k : KE') : Prop := ∀ vs σ H G Q, Sub G H → EnvR K G B ρ σ → RepL K G B ds vs → NOk K k Q G H B → g vs σ H Q
section
variable {K : PySem.W.Frag} {E : XK} {e : EW} {ρ : List (Option D)} {B : Int} {k : KD} {κ : KS} {ta tb : TE} {t : TA}
theorem We.at {t : TE} {d : D} (h : ∀ σ H G, Sub G H → EnvR K G B ρ σ → ∃ v, Rep K G B d v ∧ ∀ Q : VK, Q v H → t σ H Q) (hk : k d B) : We K E e t ρ B k := fun σ H G Q s en x q => by
  obtain ⟨v, r, f⟩ := h σ H G s en
  exact f Q (q d v B G H hk (Ext.refl s) r)
theorem we_var {i : Nat} {d : D} (h : ρ[i]? = some (some d)) (hk : k d B) : We K E e (tVar i) ρ B k :=
  We.at (fun σ H G s en => let ⟨v, h1, h2⟩ := en.get h; ⟨v, h2, fun Q q => ⟨v, h1, q⟩⟩) hk
theorem we_int {i : Int} (hk : k (.int i) B) : We K E e (tC (.int i)) ρ B k := We.at (d := (.int i)) (fun σ H G s en => ⟨.int i, rfl, fun Q q => q⟩) hk
theorem we_bl {i : Bool} (hk : k (.bl i) B) : We K E e (tC (.bl i)) ρ B k := We.at (d := (.bl i)) (fun σ H G s en => ⟨.bl i, rfl, fun Q q => q⟩) hk
theorem we_str {i : Str} (hk : k (.str i) B) : We K E e (tC (.str i)) ρ B k := We.at (d := (.str i)) (fun σ H G s en => ⟨.str i, rfl, fun Q q => q⟩) hk
theorem we_val {v : V} (hk : k (.val v) B) : We K E e (tC v) ρ B k := We.at (d := .val v) (fun σ H G s en => ⟨v, rfl, fun Q q => q⟩) hk
theorem we_non (hk : k .non B) : We K E e (tC .non) ρ B k := We.at (d := .non) (fun σ H G s en => ⟨.non, rfl, fun Q q => q⟩) hk
theorem We.imp {t : TE} {k' : KD} (h : We K E e t ρ B k) (f : ∀ d B', k d B' → k' d B') : We K E e t ρ B k' := fun σ H G Q s en x q => h σ H G Q s en x fun d v B' G' H' hk => q d v B' G' H' (f d B' hk)
/-- two values -/
def Ro (K : PySem.W.Frag) (E : XK) (e : EW) (r : R2) (a b : D) (B : Int) (k : KD) : Prop := ∀ x y H G Q, Sub G H → Rep K G B a x → Rep K G B b y → XOk K E e G H B → KOk K k Q G H B → r x y H Q
theorem we_op {r : R2} (h : We K E e ta ρ B fun a B1 => We K E e tb ρ B1 fun b B2 => Ro K E e r a b B2 k) : We K E e (tOp r ta tb) ρ B k := fun σ H G Q s en x q =>
  h σ H G _ s en x fun a v B1 G1 H1 h1 e1 r1 => h1 σ H1 G1 _ e1.sub (en.mono e1.le) (x.ext e1) fun b u B2 G2 H2 h2 e2 r2 =>
    h2 v u H2 G2 Q e2.sub (r1.mono e2.le) r2 (x.ext (e1.trans e2)) (q.ext (e1.trans e2))
theorem ro_i0 {f : Int → Int → Int} {i j : Int} (h : k (.int (f i j)) B) : Ro K E e (rI0 fun i j => V.int (f i j)) (.int i) (.int j) B k := fun x y H G Q s r1 r2 _ q =>
  ⟨i, j, r1, r2, q _ _ _ _ _ h (Ext.refl s) rfl⟩
theorem ro_b0 {f : Int → Int → Bool} {i j : Int} (h : k (.bl (f i j)) B) : Ro K E e (rI0 fun i j => V.bl (f i j)) (.int i) (.int j) B k := fun x y H G Q s r1 r2 _ q =>
  ⟨i, j, r1, r2, q _ _ _ _ _ h (Ext.refl s) rfl⟩
theorem ro_i {f : Int → Int → Int} {C : Int → Int → Prop} {i j : Int} (c : C i j) (h : k (.int (f i j)) B) : Ro K E e (rI C fun i j => V.int (f i j)) (.int i) (.int j) B k := fun x y H G Q s r1 r2 _ q =>
  ⟨i, j, r1, r2, c, q _ _ _ _ _ h (Ext.refl s) rfl⟩
theorem we_un {r : V → Hp → VK → Prop} (h : We K E e ta ρ B fun a B1 => ∀ x H G Q, Sub G H → Rep K G B1 a x → XOk K E e G H B1 → KOk K k Q G H B1 → r x H Q) : We K E e (tUn r ta) ρ B k := fun σ H G Q s en x q =>
  h σ H G _ s en x fun a v B1 G1 H1 h1 e1 r1 => h1 v H1 G1 Q e1.sub r1 (x.ext e1) (q.ext e1)
theorem we_neg {f : Int → Int} (h : We K E e ta ρ B fun a B1 => ∃ i, a = .int i ∧ k (.int (f i)) B1) : We K E e (tUn (rU fun i => V.int (f i)) ta) ρ B k :=
  we_un (h.imp fun a B1 ⟨i, ea, hk⟩ x H G Q s r xo q => by
    subst ea
    exact ⟨i, r, q _ _ _ _ _ hk (Ext.refl s) rfl⟩)
theorem wa_nil {k : KL} (h : k [] B) : Wa K E e tNil ρ B k := fun σ H G Q s en x q => q _ _ _ _ _ h (Ext.refl s) rfl
theorem wa_cons {k : KL} (h : We K E e ta ρ B fun a B1 => Wa K E e t ρ B1 fun ds B2 => k (a :: ds) B2) : Wa K E e (tCons ta t) ρ B k := fun σ H G Q s en x q =>
  h σ H G _ s en x fun a v B1 G1 H1 h1 e1 r1 => h1 σ H1 G1 _ e1.sub (en.mono e1.le) (x.ext e1) fun ds vs B2 G2 H2 h2 e2 r2 => q _ _ _ _ _ h2 (e1.trans e2) ⟨v, vs, rfl, r1.mono e2.le, r2⟩
theorem we_tup (h : Wa K E e t ρ B fun ds B1 => ds.length ≤ sizeLine ∧ k (.tup ds) B1) : We K E e (tTup t) ρ B k := fun σ H G Q s en x q =>
  h σ H G _ s en x fun ds vs B1 G1 H1 ⟨h0, h1⟩ e1 r1 => ⟨by rw [← r1.length]; exact h0, fun p np => q _ _ _ _ _ h1 (e1.trans (Ext.new e1.sub np)) ⟨p, vs, rfl, SqT.of upd_same, r1.mono (Ext.new (B := B1) e1.sub np).le⟩⟩
theorem we_lst (h : Wa K E e t ρ B fun ds B1 => ds.length ≤ sizeLine ∧ k (.lst ds) B1) : We K E e (tLst t) ρ B k := fun σ H G Q s en x q =>
  h σ H G _ s en x fun ds vs B1 G1 H1 ⟨h0, h1⟩ e1 r1 => ⟨by rw [← r1.length]; exact h0, fun p np => q _ _ _ _ _ h1 (e1.trans (Ext.new e1.sub np)) ⟨p, vs, rfl, upd_same, r1.mono (Ext.new (B := B1) e1.sub np).le⟩⟩
theorem we_fld {f : Str} (h : We K E e ta ρ B fun d B1 => ∃ C ns ds d', d = .ins C ns ds ∧ Cls K C ∧ NoAttr K C f ∧ (ns.zip ds).lookup f = some d' ∧ k d' B1) : We K E e (tFld K ta f) ρ B k := fun σ H G Q s en x q =>
  h σ H G _ s en x fun d v B1 G1 H1 ⟨C, ns, ds, d', ed, c, n, l, h1⟩ e1 r1 => by
    subst ed
    obtain ⟨a, dx, vs, rfl, ha, hl, hr⟩ := r1
    have z : ∀ (ns : List Str) (ds : List D) (vs : List V), RepL K G1 B1 ds vs → (ns.zip ds).lookup f = some d' → ∃ v, (ns.zip vs).lookup f = some v ∧ Rep K G1 B1 d' v := by
      intro ns
      induction ns with
      | nil => intro ds vs _ h; simp at h
      | cons n r ih =>
        intro ds vs hr h
        cases ds with
        | nil => simp at h
        | cons d0 ds =>
          obtain ⟨v0, vr, rfl, h0, h1⟩ := hr
          rw [List.zip_cons_cons, List.lookup_cons] at h ⊢
          cases hq : (f == n) with
          | true => rw [hq] at h; exact ⟨v0, rfl, by cases h; exact h0⟩
          | false => rw [hq] at h; exact ih ds vr h1 h
    obtain ⟨v, lv, rv⟩ := z ns ds vs hr l
    exact ⟨a, C, dx, _, v, rfl, e1.sub _ _ ha, c, n, lv, q _ _ _ _ _ h1 e1 rv⟩
theorem we_ifE {c : TT} (h : Wt K E e c ρ B fun b B1 => (b = true → We K E e ta ρ B1 k) ∧ (b = false → We K E e tb ρ B1 k)) : We K E e (tIf c ta tb) ρ B k := fun σ H G Q s en x q =>
  h σ H G _ s en x fun b B1 G1 H1 h1 e1 => by
    cases b with
    | true => exact h1.1 rfl σ H1 G1 Q e1.sub (en.mono e1.le) (x.ext e1) (q.ext e1)
    | false => exact h1.2 rfl σ H1 G1 Q e1.sub (en.mono e1.le) (x.ext e1) (q.ext e1)
theorem we_and (h : We K E e ta ρ B fun d B1 => ∃ b, d = .bl b ∧ (b = true → We K E e tb ρ B1 k) ∧ (b = false → k (.bl false) B1)) : We K E e (tAndV ta tb) ρ B k := fun σ H G Q s en x q =>
  h σ H G _ s en x fun d v B1 G1 H1 ⟨b, ed, h1, h2⟩ e1 r1 => by
    subst ed
    refine ⟨b, r1, ?_⟩
    cases b with
    | true => exact h1 rfl σ H1 G1 Q e1.sub (en.mono e1.le) (x.ext e1) (q.ext e1)
    | false => exact q _ _ _ _ _ (h2 rfl) e1 rfl
theorem we_or (h : We K E e ta ρ B fun d B1 => ∃ b, d = .bl b ∧ (b = true → k (.bl true) B1) ∧ (b = false → We K E e tb ρ B1 k)) : We K E e (tOrV ta tb) ρ B k := fun σ H G Q s en x q =>
  h σ H G _ s en x fun d v B1 G1 H1 ⟨b, ed, h1, h2⟩ e1 r1 => by
    subst ed
    refine ⟨b, r1, ?_⟩
    cases b with
    | true => exact q _ _ _ _ _ (h1 rfl) e1 rfl
    | false => exact h2 rfl σ H1 G1 Q e1.sub (en.mono e1.le) (x.ext e1) (q.ext e1)
theorem we_not (h : We K E e ta ρ B fun d B1 => ∃ b, d = .bl b ∧ k (.bl (!b)) B1) : We K E e (tNotV ta) ρ B k := fun σ H G Q s en x q =>
  h σ H G _ s en x fun d v B1 G1 H1 ⟨b, ed, h1⟩ e1 r1 => by
    subst ed
    exact ⟨b, r1, q _ _ _ _ _ h1 e1 rfl⟩
def isNon : D → Bool
  | .non => true
  | .val v => decide (v = .non)
  | .at_ _ d => isNon d
  | _ => false
theorem Rep.isNon {G : Hp} {B : Int} : ∀ {d : D} {v : V}, Rep K G B d v → decide (v = V.non) = isNon d
  | .non, _, h => by rw [show _ = _ from h]; rfl
  | .bl _, _, h => by rw [show _ = _ from h]; rfl
  | .int _, _, h => by rw [show _ = _ from h]; rfl
  | .str _, _, h => by rw [show _ = _ from h]; rfl
  | .tup _, _, ⟨a, vs, e, _⟩ => by rw [e]; rfl
  | .lst _, _, ⟨a, vs, e, _⟩ => by rw [e]; rfl
  | .ins _ _ _, _, ⟨a, dx, vs, e, _⟩ => by rw [e]; rfl
  | .pen _ _, _, ⟨_, a, _, _, _, _, e, _⟩ => by rw [e]; rfl
  | .scr _, _, ⟨_, a, e, _⟩ => by rw [e]; rfl
  | .lam _ _, _, ⟨f, d, e, _⟩ => by rw [e]; rfl
  | .at_ _ d, _, ⟨_, h⟩ => Rep.isNon (d := d) h
  | .edk, _, ⟨a, e, _⟩ => by rw [e]; rfl
  | .val _, _, h => by rw [show _ = _ from h]; rfl
theorem we_isN (h : We K E e ta ρ B fun d B1 => k (.bl (isNon d)) B1) : We K E e (tIsN ta) ρ B k := fun σ H G Q s en x q =>
  h σ H G _ s en x fun d v B1 G1 H1 h1 e1 r1 => by
    rw [r1.isNon]
    exact q _ _ _ _ _ h1 e1 rfl
theorem we_notN (h : We K E e ta ρ B fun d B1 => k (.bl (!isNon d)) B1) : We K E e (tNotN ta) ρ B k := fun σ H G Q s en x q =>
  h σ H G _ s en x fun d v B1 G1 H1 h1 e1 r1 => by
    rw [r1.isNon]
    exact q _ _ _ _ _ h1 e1 rfl
/-! tests -/
variable {kb : Bool → Int → Prop} {c d : TT}
theorem wt_val (h : We K E e ta ρ B fun d B1 => ∃ b, d = .bl b ∧ kb b B1) : Wt K E e (tB ta) ρ B kb := fun σ H G Q s en x q =>
  h σ H G _ s en x fun d v B1 G1 H1 ⟨b, ed, h1⟩ e1 r1 => by
    subst ed
    exact ⟨b, r1, q _ _ _ _ h1 e1⟩
theorem wt_test (h : We K E e ta ρ B fun d B1 => ∃ b, d = .bl b ∧ kb b B1) : Wt K E e (tTest ta) ρ B kb := fun σ H G Q s en x q =>
  h σ H G _ s en x fun d v B1 G1 H1 ⟨b, ed, h1⟩ e1 r1 => by
    subst ed
    exact ⟨b, r1, q _ _ _ _ h1 e1⟩
theorem wt_not (h : Wt K E e c ρ B fun b B1 => kb (!b) B1) : Wt K E e (tNot c) ρ B kb := fun σ H G Q s en x q =>
  h σ H G _ s en x fun b B1 G1 H1 h1 e1 => q _ _ _ _ h1 e1
theorem wt_and (h : Wt K E e c ρ B fun b B1 => (b = true → Wt K E e d ρ B1 kb) ∧ (b = false → kb false B1)) : Wt K E e (tAnd c d) ρ B kb := fun σ H G Q s en x q =>
  h σ H G _ s en x fun b B1 G1 H1 h1 e1 => by
    cases b with
    | true => exact h1.1 rfl σ H1 G1 Q e1.sub (en.mono e1.le) (x.ext e1) fun b B2 G2 H2 h2 e2 => q _ _ _ _ h2 (e1.trans e2)
    | false => exact q _ _ _ _ (h1.2 rfl) e1
theorem wt_or (h : Wt K E e c ρ B fun b B1 => (b = true → kb true B1) ∧ (b = false → Wt K E e d ρ B1 kb)) : Wt K E e (tOr c d) ρ B kb := fun σ H G Q s en x q =>
  h σ H G _ s en x fun b B1 G1 H1 h1 e1 => by
    cases b with
    | true => exact q _ _ _ _ (h1.1 rfl) e1
    | false => exact h1.2 rfl σ H1 G1 Q e1.sub (en.mono e1.le) (x.ext e1) fun b B2 G2 H2 h2 e2 => q _ _ _ _ h2 (e1.trans e2)
/-! statements -/
variable {ts us : TS}
theorem ws_ret (h : We K E e ta ρ B κ.rt) : Ws K E e (tRet ta) ρ B κ := fun σ H G Dn s en x q => h σ H G _ s en x q.rt
theorem ws_retN (h : κ.rt .non B) : Ws K E e tRetN ρ B κ := fun σ H G Dn s en x q => q.rt _ _ _ _ _ h (Ext.refl s) rfl
theorem ws_next (h : κ.nx ρ B) : Ws K E e tNext ρ B κ := fun σ H G Dn s en x q => q.nx _ _ _ _ _ h (Ext.refl s) en
theorem ws_break (h : κ.bk ρ B) : Ws K E e tBreak ρ B κ := fun σ H G Dn s en x q => q.bk _ _ _ _ _ h (Ext.refl s) en
theorem ws_cont (h : κ.ct ρ B) : Ws K E e tCont ρ B κ := fun σ H G Dn s en x q => q.ct _ _ _ _ _ h (Ext.refl s) en
theorem ws_seq (h : Ws K E e ts ρ B { κ with nx := fun ρ' B' => Ws K E e us ρ' B' κ }) : Ws K E e (tSeq ts us) ρ B κ := fun σ H G Dn s en x q =>
  h σ H G _ s en x ⟨fun ρ' σ' B' G' H' h1 e1 en1 => h1 σ' H' G' Dn e1.sub en1 (x.ext e1) (q.ext e1), q.rt, q.bk, q.ct⟩
theorem ws_drop (h : We K E e ta ρ B fun _ B1 => κ.nx ρ B1) : Ws K E e (tDrop ta) ρ B κ := fun σ H G Dn s en x q =>
  h σ H G _ s en x fun d v B1 G1 H1 h1 e1 r1 => q.nx _ _ _ _ _ h1 e1 (en.mono e1.le)
theorem ws_if (h : Wt K E e c ρ B fun b B1 => (b = true → Ws K E e ts ρ B1 κ) ∧ (b = false → Ws K E e us ρ B1 κ)) : Ws K E e (tIfS c ts us) ρ B κ := fun σ H G Dn s en x q =>
  h σ H G _ s en x fun b B1 G1 H1 h1 e1 => by
    cases b with
    | true => exact h1.1 rfl σ H1 G1 Dn e1.sub (en.mono e1.le) (x.ext e1) (q.ext e1)
    | false => exact h1.2 rfl σ H1 G1 Dn e1.sub (en.mono e1.le) (x.ext e1) (q.ext e1)
theorem ws_set {i : Nat} (h : We K E e ta ρ B fun d B1 => κ.nx (ρ.set i (some d)) B1) : Ws K E e (tAsg ta (gName i)) ρ B κ := fun σ H G Dn s en x q =>
  h σ H G _ s en x fun d v B1 G1 H1 h1 e1 r1 => q.nx _ _ _ _ _ h1 e1 (EnvR.set r1 i (en.mono e1.le))
theorem ws_asg {g : TG} (h : We K E e ta ρ B fun d B1 => Wg K g d ρ B1 κ.nx) : Ws K E e (tAsg ta g) ρ B κ := fun σ H G Dn s en x q =>
  h σ H G _ s en x fun d v B1 G1 H1 h1 e1 r1 => h1 v σ H1 G1 _ e1.sub (en.mono e1.le) r1 (q.nx.ext e1)
theorem ws_par {i j : Nat} (h : Wa K E e t ρ B fun ds B1 => ∃ a b, ds = [a, b] ∧ κ.nx ((ρ.set i (some a)).set j (some b)) B1) : Ws K E e (tPar i j t) ρ B κ := fun σ H G Dn s en x q =>
  h σ H G _ s en x fun ds vs B1 G1 H1 ⟨a, b, ed, h1⟩ e1 r1 => by
    subst ed
    obtain ⟨v, _, rfl, ra, u, _, rfl, rb, rfl⟩ := r1
    exact ⟨v, u, rfl, q.nx _ _ _ _ _ h1 e1 (EnvR.set rb j (EnvR.set ra i (en.mono e1.le)))⟩
theorem ws_par3 {i j l : Nat} (h : Wa K E e t ρ B fun ds B1 => ∃ a b c, ds = [a, b, c] ∧ κ.nx (((ρ.set i (some a)).set j (some b)).set l (some c)) B1) : Ws K E e (L2.tPar3 i j l t) ρ B κ := fun σ H G Dn s en x q =>
  h σ H G _ s en x fun ds vs B1 G1 H1 ⟨a, b, c, ed, h1⟩ e1 r1 => by
    subst ed
    obtain ⟨v, _, rfl, ra, u, _, rfl, rb, w, _, rfl, rc, rfl⟩ := r1
    exact ⟨v, u, w, rfl, q.nx _ _ _ _ _ h1 e1 (EnvR.set rc l (EnvR.set rb j (EnvR.set ra i (en.mono e1.le))))⟩
/-! targets -/
theorem wg_name {i : Nat} {d : D} {k : KE'} (h : k (ρ.set i (some d)) B) : Wg K (gName i) d ρ B k := fun v σ H G Q s en r q => q _ _ _ _ _ h (Ext.refl s) (EnvR.set r i en)
theorem wgs_nil {k : KE'} (h : k ρ B) : Wgs K gNil [] ρ B k := fun vs σ H G Q s en r q => ⟨r, q _ _ _ _ _ h (Ext.refl s) en⟩
theorem wgs_cons {g : TG} {gs : TGs} {d : D} {ds : List D} {k : KE'} (h : Wg K g d ρ B fun ρ1 B1 => Wgs K gs ds ρ1 B1 k) : Wgs K (gCons g gs) (d :: ds) ρ B k := fun vs σ H G Q s en r q => by
  obtain ⟨v, w, rfl, r1, r2⟩ := r
  exact ⟨v, w, rfl, h v σ H G _ s en r1 fun ρ1 σ1 B1 G1 H1 h1 e1 en1 => h1 w σ1 H1 G1 Q e1.sub en1 (r2.mono e1.le) (q.ext e1)⟩
theorem wg_tup {n : Nat} {gs : TGs} {ds : List D} {k : KE'} (hn : ds.length = n) (h : Wgs K gs ds ρ B k) : Wg K (gTup K n gs) (.tup ds) ρ B k := fun v σ H G Q s en r q => by
  obtain ⟨a, vs, rfl, ha, hr⟩ := r
  exact ⟨a, vs, rfl, (Le.of_sub (B := B) (B' := B) s (Int.le_refl _)).seqT ha, by rw [← hr.length]; exact hn, h vs σ H G Q s en hr q⟩
end
end AW

set_option linter.all false
set_option maxRecDepth 100000
set_option maxHeartbeats 4000000
namespace AW
open PySem PySem.Spec PyProof.Rows L2
variable [Tbs]
/-! ### defs by their promise about data -/
abbrev Pr := List D → Int → KD → EW → Prop
def noE : EW := fun _ _ _ => False
def spD (K : PySem.W.Frag) (pr : Pr) : Sp := fun vs H Q E => ∃ G ds B k e, Sub G H ∧ RepL K G B ds vs ∧ pr ds B k e ∧ KOk K k Q G H B ∧ XOk K E e G H B
theorem XOk.no {K : PySem.W.Frag} {E : XK} {G H : Hp} {B : Int} : XOk K E noE G H B := fun _ _ _ _ _ h => h.elim
theorem spD_len {K : PySem.W.Frag} {pr : Pr} {n : Nat} (h : ∀ ds B k e, pr ds B k e → ds.length = n) : ∀ vs H Q E, spD K pr vs H Q E → vs.length = n := fun vs H Q E ⟨G, ds, B, k, e, _, r, p, _⟩ => by
  rw [← r.length]
  exact h _ _ _ _ p
section
variable {K : PySem.W.Frag} {E E' : XK} {e : EW} {ρ : List (Option D)} {B : Int} {k : KD} {κ : KS} {ta tb : TE} {t : TA} {pr : Pr}
theorem we_call (h : Wa K E e t ρ B fun ds B1 => pr ds B1 k noE) : We K E e (tCall (spD K pr) [] E' t) ρ B k := fun σ H G Q s en x q =>
  h σ H G _ s en x fun ds vs B1 G1 H1 h1 e1 r1 => by
    show spD K pr (vs ++ []) H1 Q E'
    rw [List.append_nil]
    exact ⟨G1, ds, B1, k, noE, e1.sub, r1, h1, q.ext e1, XOk.no⟩
theorem we_callE (h : Wa K E e t ρ B fun ds B1 => pr ds B1 k e) : We K E e (tCall (spD K pr) [] E t) ρ B k := fun σ H G Q s en x q =>
  h σ H G _ s en x fun ds vs B1 G1 H1 h1 e1 r1 => by
    show spD K pr (vs ++ []) H1 Q E
    rw [List.append_nil]
    exact ⟨G1, ds, B1, k, e, e1.sub, r1, h1, q.ext e1, x.ext e1⟩
theorem lookup_zip_none {m : Str} : ∀ {ns : List Str} {vs : List V}, (∀ n ∈ ns, (m == n) = false) → (ns.zip vs).lookup m = none
  | [], _, _ => by simp
  | n :: ns, [], _ => by simp
  | n :: ns, v :: vs, h => by
    rw [List.zip_cons_cons, List.lookup_cons, h n (List.mem_cons_self ..)]
    exact lookup_zip_none fun q hq => h q (List.mem_cons_of_mem _ hq)
theorem we_meth {C : Addr} {m : Str} (h : We K E e ta ρ B fun d B1 => ∃ ns fs, d = .ins C ns fs ∧ (∀ n ∈ ns, (m == n) = false) ∧ Wa K E e t ρ B1 fun ds B2 => pr (d :: ds) B2 k noE) : We K E e (tMeth C m (spD K pr) [] E' ta t) ρ B k := fun σ H G Q s en x q =>
  h σ H G _ s en x fun d v B1 G1 H1 ⟨ns, fs, ed, nm, h1⟩ e1 r1 => by
    subst ed
    obtain ⟨a, dx, vs, rfl, ha, hl, hr⟩ := id r1
    refine ⟨a, dx, _, rfl, e1.sub _ _ ha, lookup_zip_none nm, ?_⟩
    refine h1 σ H1 G1 _ e1.sub (en.mono e1.le) (x.ext e1) fun ds ws B2 G2 H2 h2 e2 r2 => ?_
    show spD K pr (.ref a :: (ws ++ [])) H2 Q E'
    rw [List.append_nil]
    exact ⟨G2, .ins C ns fs :: ds, B2, k, noE, e2.sub, ⟨_, _, rfl, r1.mono e2.le, r2⟩, h2, (q.ext e1).ext e2, XOk.no⟩
theorem we_methE {C : Addr} {m : Str} (h : We K E e ta ρ B fun d B1 => ∃ ns fs, d = .ins C ns fs ∧ (∀ n ∈ ns, (m == n) = false) ∧ Wa K E e t ρ B1 fun ds B2 => pr (d :: ds) B2 k e) : We K E e (tMeth C m (spD K pr) [] E ta t) ρ B k := fun σ H G Q s en x q =>
  h σ H G _ s en x fun d v B1 G1 H1 ⟨ns, fs, ed, nm, h1⟩ e1 r1 => by
    subst ed
    obtain ⟨a, dx, vs, rfl, ha, hl, hr⟩ := id r1
    refine ⟨a, dx, _, rfl, e1.sub _ _ ha, lookup_zip_none nm, ?_⟩
    refine h1 σ H1 G1 _ e1.sub (en.mono e1.le) (x.ext e1) fun ds ws B2 G2 H2 h2 e2 r2 => ?_
    show spD K pr (.ref a :: (ws ++ [])) H2 Q E
    rw [List.append_nil]
    exact ⟨G2, .ins C ns fs :: ds, B2, k, e, e2.sub, ⟨_, _, rfl, r1.mono e2.le, r2⟩, h2, (q.ext e1).ext e2, (x.ext e1).ext e2⟩
/-- the body runs -/
theorem run_body {N : List Str} {ts : TS} {G H : Hp} {ds : List D} {vs : List V} {Q : VK} (hs : Sub G H) (hr : RepL K G B ds vs) (hk : KOk K k Q G H B) (hx : XOk K E e G H B) (hN : startD N ds = ρ) (h : Ws K E e ts ρ B { nx := fun _ B' => k .non B', rt := k }) :
    ts { nx := fun _ H' => Q .non H', rt := Q } (L2.start N vs) H := by
  subst hN
  refine h _ H G _ hs ?_ hx ⟨fun ρ' σ' B' G' H' h1 e1 _ => hk _ _ _ _ _ h1 e1 rfl, hk, fun _ _ _ _ _ h => h.elim, fun _ _ _ _ _ h => h.elim⟩
  unfold startD L2.start
  rw [hr.length]
  exact EnvR.of_vals _ hr
/-! ### a class made -/
/-- an __init__'s promise: from the arguments, the fields -/
def spI (K : PySem.W.Frag) (C : Addr) (ns : List Str) (pr : List D → Int → (List D → Int → Prop) → EW → Prop) : Sp := fun vs H Q E => ∃ p dx ws G ds B k e, vs = .ref p :: ws ∧ H p = some (.ins C dx []) ∧ G p = none ∧ G dx = none ∧ dx ≠ p ∧ H dx = some (.own p) ∧
  Sub G H ∧ RepL K G B ds ws ∧ pr ds B k e ∧
  (∀ fs us B' G' H', k fs B' → Le G B G' B' → Sub G' H' → (∀ a o, H a = some o → G a = none → a ≠ p → (∀ ps, o ≠ .tbl ps) → H' a = some o ∧ G' a = none) → G' p = none → H' p = some (.ins C dx (ns.zip us)) → ns.length = us.length → RepL K G' B' fs us → Q .non H') ∧
  XOk K E e G H B
theorem RepL.non_mem {G : Hp} {p : Addr} (n : G p = none) : True := trivial
theorem we_make {C : Addr} {ns : List Str} {pi : List D → Int → (List D → Int → Prop) → EW → Prop} (h : Wa K E e t ρ B fun ds B1 => pi ds B1 (fun fs B2 => k (.ins C ns fs) B2) noE) : We K E e (tMake C (spI K C ns pi) [] E' t) ρ B k := fun σ H G Q s en x q =>
  h σ H G _ s en x fun ds vs B1 G1 H1 h1 e1 r1 => by
    show ∀ p dx, H1 p = none → H1 dx = none → dx ≠ p → _
    intro p dx np nd ne
    rw [List.append_nil]
    have gp : G1 p = none := by
      cases z : G1 p with
      | none => rfl
      | some u => rw [e1.sub _ _ z] at np; cases np
    have gd : G1 dx = none := by
      cases z : G1 dx with
      | none => rfl
      | some u => rw [e1.sub _ _ z] at nd; cases nd
    refine ⟨p, dx, vs, G1, ds, B1, _, noE, rfl, upd_same, gp, gd, ne, by rw [upd_ne ne, upd_same], fun a o z => ?_, r1, h1, fun fs us B2 G2 H2 hk le sub fr g2 h2 hl hr => ⟨rfl, ?_⟩, XOk.no⟩
    · have := e1.sub _ _ z
      rw [upd_ne (ne_of_none this np), upd_ne (ne_of_none this nd)]
      exact this
    · have e2 : Ext G H B (upd G2 p (.ins C dx (ns.zip us))) H2 B2 := by
        refine ⟨(e1.le.trans le).trans (Le.of_sub (fun a o z => by rw [upd_ne (ne_of_none z g2)]; exact z) (Int.le_refl _)), fun a o z => ?_, fun a o z n t => ?_⟩
        · by_cases hq : a = p
          · subst hq; rw [upd_same] at z; cases z; exact h2
          · rw [upd_ne hq] at z; exact sub _ _ z
        · obtain ⟨z1, z2⟩ := e1.fr a o z n t
          have hq : a ≠ p := ne_of_none z1 np
          obtain ⟨z3, z4⟩ := fr a o (by rw [upd_ne hq, upd_ne (ne_of_none z1 nd)]; exact z1) z2 hq t
          exact ⟨z3, by rw [upd_ne hq]; exact z4⟩
      exact q _ _ _ _ _ hk e2 ⟨p, dx, us, rfl, upd_same, hl, hr.mono (Le.of_sub (fun a o z => by rw [upd_ne (ne_of_none z g2)]; exact z) (Int.le_refl _))⟩
/-! ### data compared -/
mutual
def py : D → PyData
  | .non => .none
  | .bl b => .bool b
  | .int i => .int i
  | .str x => .str x
  | .tup ds => .tuple (pyL ds)
  | .lst ds => .list (pyL ds)
  | .ins _ _ _ => .none
  | .pen _ _ => .none
  | .scr _ => .none
  | .val _ => .none
  | .lam _ _ => .none
  | .at_ _ d => py d
  | .edk => .none
def pyL : List D → List PyData
  | [] => []
  | d :: ds => py d :: pyL ds
end
mutual
def pyOk : D → Bool
  | .tup ds => pyOkL ds
  | .lst ds => pyOkL ds
  | .ins _ _ _ => false
  | .pen _ _ => false
  | .scr _ => false
  | .val _ => false
  | .lam _ _ => false
  | .at_ _ d => pyOk d
  | .edk => false
  | _ => true
def pyOkL : List D → Bool
  | [] => true
  | d :: ds => pyOk d && pyOkL ds
end
mutual
theorem Rep.dp {G H : Hp} {B : Int} (s : Sub G H) : ∀ {d : D} {v : V}, Rep K G B d v → pyOk d = true → Dp K H v (py d)
  | .non, _, h, _ => by rw [show _ = _ from h]; exact .non
  | .bl _, _, h, _ => by rw [show _ = _ from h]; exact .bl _
  | .int _, _, h, _ => by rw [show _ = _ from h]; exact .int _
  | .str _, _, h, _ => by rw [show _ = _ from h]; exact .str _
  | .tup _, _, ⟨a, vs, e, h, hr⟩, o => by rw [e]; exact .tup ((Le.of_sub (B := B) (B' := B) s (Int.le_refl _)).seqT h) (RepL.dp s hr o)
  | .lst _, _, ⟨a, vs, e, h, hr⟩, o => by rw [e]; exact .lst (SqL.of (s _ _ h)) (RepL.dp s hr o)
  | .ins _ _ _, _, _, o => nomatch o
  | .pen _ _, _, _, o => nomatch o
  | .scr _, _, _, o => nomatch o
  | .val _, _, _, o => nomatch o
  | .lam _ _, _, _, o => nomatch o
  | .at_ _ d, _, ⟨_, h⟩, o => Rep.dp s (d := d) h o
  | .edk, _, _, o => nomatch o
theorem RepL.dp {G H : Hp} {B : Int} (s : Sub G H) : ∀ {ds : List D} {vs : List V}, RepL K G B ds vs → pyOkL ds = true → DpAll K H vs (pyL ds)
  | [], _, h, _ => by rw [show _ = _ from h]; exact .nil
  | d :: ds, _, ⟨v, r, e, h, hr⟩, o => by
    rw [e]
    have o' : (pyOk d && pyOkL ds) = true := o
    rw [Bool.and_eq_true] at o'
    exact .cons (Rep.dp s h o'.1) (RepL.dp s hr o'.2)
end
theorem ro_eqD {a b : D} (oa : pyOk a = true) (ob : pyOk b = true) (sa : SeqAt.shaped (py a) = true) (sb : SeqAt.shaped (py b) = true) (h : k (.bl (PyData.eqv (py a) (py b))) B) : Ro K E e (rEqD K) a b B k := fun x y H G Q s r1 r2 _ q =>
  ⟨_, _, Rep.dp s r1 oa, Rep.dp s r2 ob, sa, sb, q _ _ _ _ _ h (Ext.refl s) rfl⟩
theorem ro_neD {a b : D} (oa : pyOk a = true) (ob : pyOk b = true) (sa : SeqAt.shaped (py a) = true) (sb : SeqAt.shaped (py b) = true) (h : k (.bl (!PyData.eqv (py a) (py b))) B) : Ro K E e (rNeD K) a b B k := fun x y H G Q s r1 r2 _ q =>
  ⟨_, _, Rep.dp s r1 oa, Rep.dp s r2 ob, sa, sb, q _ _ _ _ _ h (Ext.refl s) rfl⟩
theorem ro_eqI {i j : Int} (h : k (.bl (decide (i = j))) B) : Ro K E e rEq (.int i) (.int j) B k := fun x y H G Q s r1 r2 _ q => by
  rw [show x = _ from r1, show y = _ from r2]
  have e1 : decide (V.int i = V.int j) = decide (i = j) := by
    by_cases z : i = j
    · subst z; simp
    · rw [decide_eq_false z, decide_eq_false fun w => z (V.int.inj w)]
  refine ⟨rfl, ?_⟩
  rw [e1]
  exact q _ _ _ _ _ h (Ext.refl s) rfl
theorem ro_neI {i j : Int} (h : k (.bl (!decide (i = j))) B) : Ro K E e rNe (.int i) (.int j) B k := fun x y H G Q s r1 r2 _ q => by
  rw [show x = _ from r1, show y = _ from r2]
  have e1 : decide (V.int i = V.int j) = decide (i = j) := by
    by_cases z : i = j
    · subst z; simp
    · rw [decide_eq_false z, decide_eq_false fun w => z (V.int.inj w)]
  refine ⟨rfl, ?_⟩
  rw [e1]
  exact q _ _ _ _ _ h (Ext.refl s) rfl
theorem ro_eqS {i j : Str} (h : k (.bl (decide (i = j))) B) : Ro K E e rEq (.str i) (.str j) B k := fun x y H G Q s r1 r2 _ q => by
  rw [show x = _ from r1, show y = _ from r2]
  have e1 : decide (V.str i = V.str j) = decide (i = j) := by
    by_cases z : i = j
    · subst z; simp
    · rw [decide_eq_false z, decide_eq_false fun w => z (V.str.inj w)]
  refine ⟨rfl, ?_⟩
  rw [e1]
  exact q _ _ _ _ _ h (Ext.refl s) rfl
/-! ### subscripts -/
theorem RepL.ixN {G : Hp} {ds : List D} {vs : List V} {i : Int} {d : D} (r : RepL K G B ds vs) (h : atI ds i = some d) : ∃ v, atI vs i = some v ∧ Rep K G B d v := by
  unfold atI at h ⊢
  rw [← r.length]
  cases z : L2.ixN ds.length i with
  | none => rw [z] at h; cases h
  | some j =>
    rw [z] at h
    exact r.get h
theorem ro_ixT {ds : List D} {i : Int} {d : D} (h : atI ds i = some d) (hk : k d B) : Ro K E e (rIxT K) (.tup ds) (.int i) B k := fun x y H G Q s r1 r2 _ q => by
  obtain ⟨a, vs, rfl, ha, hr⟩ := r1
  obtain ⟨v, h1, h2⟩ := hr.ixN h
  exact ⟨a, vs, i, v, rfl, r2, (Le.of_sub (B := B) (B' := B) s (Int.le_refl _)).seqT ha, h1, q _ _ _ _ _ hk (Ext.refl s) h2⟩
theorem ro_ixL {ds : List D} {i : Int} {d : D} (h : atI ds i = some d) (hk : k d B) : Ro K E e (rIxL K) (.lst ds) (.int i) B k := fun x y H G Q s r1 r2 _ q => by
  obtain ⟨a, vs, rfl, ha, hr⟩ := r1
  obtain ⟨v, h1, h2⟩ := hr.ixN h
  exact ⟨a, vs, i, v, rfl, r2, SqL.of (s _ _ ha), h1, q _ _ _ _ _ hk (Ext.refl s) h2⟩
theorem ro_ix_or {r : R2} {r' : R2} {a b : D} (h : Ro K E e r a b B k) : Ro K E e (fun x y H Q => r x y H Q ∨ r' x y H Q) a b B k := fun x y H G Q s r1 r2 xo q => .inl (h x y H G Q s r1 r2 xo q)
/-! ### built-ins -/
theorem we_cb {r : List V → Hp → VK → Prop} (h : Wa K E e t ρ B fun ds B1 => ∀ vs H G Q, Sub G H → RepL K G B1 ds vs → KOk K k Q G H B1 → r vs H Q) : We K E e (tCB r t) ρ B k := fun σ H G Q s en x q =>
  h σ H G _ s en x fun ds vs B1 G1 H1 h1 e1 r1 => h1 vs H1 G1 Q e1.sub r1 (q.ext e1)
theorem cb_fun1 {f : Int → Int} {r : List V → Hp → VK → Prop} (hr : ∀ i H Q, Q (.int (f i)) H → r [.int i] H Q) {ds : List D} (h : ∃ i, ds = [.int i] ∧ k (.int (f i)) B) : ∀ vs H G Q, Sub G H → RepL K G B ds vs → KOk K k Q G H B → r vs H Q := fun vs H G Q s r1 q => by
  obtain ⟨i, rfl, hk⟩ := h
  obtain ⟨v, _, rfl, rv, rfl⟩ := r1
  rw [show v = _ from rv]
  exact hr i H Q (q _ _ _ _ _ hk (Ext.refl s) rfl)
theorem cb_fun2 {f : Int → Int → Int} {r : List V → Hp → VK → Prop} (hr : ∀ i j H Q, Q (.int (f i j)) H → r [.int i, .int j] H Q) {ds : List D} (h : ∃ i j, ds = [.int i, .int j] ∧ k (.int (f i j)) B) : ∀ vs H G Q, Sub G H → RepL K G B ds vs → KOk K k Q G H B → r vs H Q := fun vs H G Q s r1 q => by
  obtain ⟨i, j, rfl, hk⟩ := h
  obtain ⟨v, _, rfl, rv, u, _, rfl, ru, rfl⟩ := r1
  rw [show v = _ from rv, show u = _ from ru]
  exact hr i j H Q (q _ _ _ _ _ hk (Ext.refl s) rfl)
theorem we_intof (h : Wa K E e t ρ B fun ds B1 => ∃ i, ds = [.int i] ∧ k (.int i) B1) : We K E e (tCB (fun xs H Q => (∃ i, xs = [.int i] ∧ Q (.int i) H) ∨ ∃ k, xs = [.bl k] ∧ Q (.int (if k then 1 else 0)) H) t) ρ B k :=
  we_cb fun σ H G Q s en x q => h σ H G Q s en x fun ds vs B1 G1 H1 h1 e1 r1 => q ds vs B1 G1 H1 (cb_fun1 (f := fun i => i) (fun i H Q q => .inl ⟨i, rfl, q⟩) h1) e1 r1
theorem we_abs (h : Wa K E e t ρ B fun ds B1 => ∃ i, ds = [.int i] ∧ k (.int (if i < 0 then -i else i)) B1) : We K E e (tCB (fun xs H Q => ∃ i, xs = [.int i] ∧ Q (.int (if i < 0 then -i else i)) H) t) ρ B k :=
  we_cb fun σ H G Q s en x q => h σ H G Q s en x fun ds vs B1 G1 H1 h1 e1 r1 => q ds vs B1 G1 H1 (cb_fun1 (f := fun i => if i < 0 then -i else i) (fun i H Q q => ⟨i, rfl, q⟩) h1) e1 r1
theorem we_gcd (h : Wa K E e t ρ B fun ds B1 => ∃ i j, ds = [.int i, .int j] ∧ k (.int ((Nat.gcd i.natAbs j.natAbs : Nat) : Int)) B1) : We K E e (tCB rGcd t) ρ B k :=
  we_cb fun σ H G Q s en x q => h σ H G Q s en x fun ds vs B1 G1 H1 h1 e1 r1 => q ds vs B1 G1 H1 (cb_fun2 (f := fun i j => ((Nat.gcd i.natAbs j.natAbs : Nat) : Int)) (fun i j H Q q => ⟨i, j, rfl, q⟩) h1) e1 r1
theorem we_lenL (h : Wa K E e t ρ B fun ds B1 => ∃ xs, ds = [.lst xs] ∧ k (.int xs.length) B1) : We K E e (tCB (fun xs H Q => ∃ p ys, xs = [.ref p] ∧ (SqL K H p ys ∨ SqT K H p ys) ∧ Q (.int ys.length) H) t) ρ B k :=
  we_cb fun σ H G Q s en x q => h σ H G Q s en x fun ds vs B1 G1 H1 ⟨xs, ed, h1⟩ e1 r1 => q ds vs B1 G1 H1 (fun ws H2 G2 Q2 s2 r2 q2 => by
    subst ed
    obtain ⟨v, _, rfl, ⟨a, us, rfl, ha, hr⟩, rfl⟩ := r2
    exact ⟨a, us, rfl, .inl (SqL.of (s2 _ _ ha)), by rw [← hr.length]; exact q2 _ _ _ _ _ h1 (Ext.refl s2) rfl⟩) e1 r1
theorem we_lenT (h : Wa K E e t ρ B fun ds B1 => ∃ xs, ds = [.tup xs] ∧ k (.int xs.length) B1) : We K E e (tCB (fun xs H Q => ∃ p ys, xs = [.ref p] ∧ (SqL K H p ys ∨ SqT K H p ys) ∧ Q (.int ys.length) H) t) ρ B k :=
  we_cb fun σ H G Q s en x q => h σ H G Q s en x fun ds vs B1 G1 H1 ⟨xs, ed, h1⟩ e1 r1 => q ds vs B1 G1 H1 (fun ws H2 G2 Q2 s2 r2 q2 => by
    subst ed
    obtain ⟨v, _, rfl, ⟨a, us, rfl, ha, hr⟩, rfl⟩ := r2
    exact ⟨a, us, rfl, .inr ((Le.of_sub (B := B1) (B' := B1) s2 (Int.le_refl _)).seqT ha), by rw [← hr.length]; exact q2 _ _ _ _ _ h1 (Ext.refl s2) rfl⟩) e1 r1
/-! ### loops -/
variable {wi : TI} {g : TG} {tbody : TS} {tl : TE}
theorem ws_for_list (h : We K E e tl ρ B fun d B1 => ∃ ds, d = .lst ds ∧ ∃ I : Nat → KE', I 0 ρ B1 ∧ (∀ i x ρ' B', ds[i]? = some x → I i ρ' B' → Wg K g x ρ' B' fun ρ2 B2 => Ws K E e tbody ρ2 B2 { nx := I (i + 1), rt := κ.rt, bk := κ.nx, ct := I (i + 1) }) ∧ ∀ ρ' B', I ds.length ρ' B' → κ.nx ρ' B') :
    Ws K E e (tFor (iList K tl) g tbody) ρ B κ := fun σ H G Dn s en x q =>
  h σ H G _ s en x fun d v B1 G1 H1 ⟨ds, ed, I, i0, hs, hd⟩ e1 r1 => by
    subst ed
    obtain ⟨a, vs, rfl, ha, hr⟩ := r1
    refine ⟨a, rfl, ⟨vs, SqL.of (e1.sub _ _ ha)⟩, ?_⟩
    refine for_list (xs := vs) (fun i σ' H' => ∃ ρ' B' G', I i ρ' B' ∧ Ext G1 H1 B1 G' H' B' ∧ EnvR K G' B' ρ' σ') ⟨ρ, B1, G1, i0, Ext.refl e1.sub, en.mono e1.le⟩ (fun i σ' H' _ ⟨_, _, G', _, e2, _⟩ => SqL.of (e2.sub _ _ (e2.le.keep _ _ ha nopen_lst))) ?_ ?_
    · rintro i y σ' H' hi ⟨ρ', B', G', hI, e2, en2⟩
      obtain ⟨dx, hdx, rx⟩ := hr.get' hi
      refine hs i dx ρ' B' hdx hI y σ' H' G' _ e2.sub en2 (rx.mono e2.le) fun ρ2 σ2 B2 G2 H2 h2 e3 en3 => ?_
      have eA := e1.trans (e2.trans e3)
      exact h2 σ2 H2 G2 _ e3.sub en3 (x.ext eA) ⟨fun ρ3 σ3 B3 G3 H3 h3 e4 en4 => ⟨ρ3, B3, G3, h3, (e2.trans e3).trans e4, en4⟩, q.rt.ext eA, q.nx.ext eA, fun ρ3 σ3 B3 G3 H3 h3 e4 en4 => ⟨ρ3, B3, G3, h3, (e2.trans e3).trans e4, en4⟩⟩
    · rintro σ' H' ⟨ρ', B', G', hI, e2, en2⟩
      rw [← hr.length] at hI
      exact q.nx _ _ _ _ _ (hd _ _ hI) (e1.trans e2) en2
theorem ws_for_tup (h : We K E e tl ρ B fun d B1 => ∃ ds, d = .tup ds ∧ ∃ I : Nat → KE', I 0 ρ B1 ∧ (∀ i x ρ' B', ds[i]? = some x → I i ρ' B' → Wg K g x ρ' B' fun ρ2 B2 => Ws K E e tbody ρ2 B2 { nx := I (i + 1), rt := κ.rt, bk := κ.nx, ct := I (i + 1) }) ∧ ∀ ρ' B', I ds.length ρ' B' → κ.nx ρ' B') :
    Ws K E e (tFor (iTup K tl) g tbody) ρ B κ := fun σ H G Dn s en x q =>
  h σ H G _ s en x fun d v B1 G1 H1 ⟨ds, ed, I, i0, hs, hd⟩ e1 r1 => by
    subst ed
    obtain ⟨a, vs, rfl, ha, hr⟩ := r1
    refine ⟨a, rfl, ⟨vs, (Le.of_sub (B := B) (B' := B) e1.sub (Int.le_refl _)).seqT ha⟩, ?_⟩
    refine for_tup (xs := vs) (fun i σ' H' => ∃ ρ' B' G', I i ρ' B' ∧ Ext G1 H1 B1 G' H' B' ∧ EnvR K G' B' ρ' σ') ⟨ρ, B1, G1, i0, Ext.refl e1.sub, en.mono e1.le⟩ (fun i σ' H' _ ⟨_, _, G', _, e2, _⟩ => (Le.of_sub (B := B) (B' := B) e2.sub (Int.le_refl _)).seqT (e2.le.seqT ha)) ?_ ?_
    · rintro i y σ' H' hi ⟨ρ', B', G', hI, e2, en2⟩
      obtain ⟨dx, hdx, rx⟩ := hr.get' hi
      refine hs i dx ρ' B' hdx hI y σ' H' G' _ e2.sub en2 (rx.mono e2.le) fun ρ2 σ2 B2 G2 H2 h2 e3 en3 => ?_
      have eA := e1.trans (e2.trans e3)
      exact h2 σ2 H2 G2 _ e3.sub en3 (x.ext eA) ⟨fun ρ3 σ3 B3 G3 H3 h3 e4 en4 => ⟨ρ3, B3, G3, h3, (e2.trans e3).trans e4, en4⟩, q.rt.ext eA, q.nx.ext eA, fun ρ3 σ3 B3 G3 H3 h3 e4 en4 => ⟨ρ3, B3, G3, h3, (e2.trans e3).trans e4, en4⟩⟩
    · rintro σ' H' ⟨ρ', B', G', hI, e2, en2⟩
      rw [← hr.length] at hI
      exact q.nx _ _ _ _ _ (hd _ _ hI) (e1.trans e2) en2
theorem for_range_D {n : Nat} {G H : Hp} {σ : L2.St} {Dn : Ends} (s : Sub G H) (en : EnvR K G B ρ σ) (x : XOk K E e G H B) (q : EndsOk K κ Dn G H B) (I : Nat → KE') (lo : Int) (i0 : I 0 ρ B)
    (hs : ∀ (i : Nat) ρ' B', i < n → I i ρ' B' → Wg K g (.int (lo + i)) ρ' B' fun ρ2 B2 => Ws K E e tbody ρ2 B2 { nx := I (i + 1), rt := κ.rt, bk := κ.nx, ct := I (i + 1) }) (hd : ∀ ρ' B', I n ρ' B' → κ.nx ρ' B') :
    ∃ W : Nat → Nat → L2.St → Hp → Prop, (∃ m, W 0 m σ H) ∧ ∀ i m σ H, W i m σ H →
      ((Itr lo n).stop i H ∧ Dn.nx σ H) ∨ ((Itr lo n).go i H ∧ ∃ N : L2.St → Hp → Prop, (∀ σ' H', N σ' H' → ∃ m', m' < m ∧ W (i + 1) m' σ' H') ∧ ∀ x H', (Itr lo n).yld i H x H' → g x σ H' fun σ2 H2 => tbody { Dn with nx := N, ct := N, bk := Dn.nx } σ2 H2) := by
  refine for_range (fun i σ' H' => ∃ ρ' B' G', I i ρ' B' ∧ Ext G H B G' H' B' ∧ EnvR K G' B' ρ' σ') ⟨ρ, B, G, i0, Ext.refl s, en⟩ ?_ ?_
  · rintro i σ' H' hi ⟨ρ', B', G', hI, e2, en2⟩
    refine hs i ρ' B' hi hI _ σ' H' G' _ e2.sub en2 rfl fun ρ2 σ2 B2 G2 H2 h2 e3 en3 => ?_
    have eA := e2.trans e3
    exact h2 σ2 H2 G2 _ e3.sub en3 (x.ext eA) ⟨fun ρ3 σ3 B3 G3 H3 h3 e4 en4 => ⟨ρ3, B3, G3, h3, (e2.trans e3).trans e4, en4⟩, q.rt.ext eA, q.nx.ext eA, fun ρ3 σ3 B3 G3 H3 h3 e4 en4 => ⟨ρ3, B3, G3, h3, (e2.trans e3).trans e4, en4⟩⟩
  · rintro σ' H' ⟨ρ', B', G', hI, e2, en2⟩
    exact q.nx _ _ _ _ _ (hd _ _ hI) e2 en2
theorem ws_for_range1 (h : Wa K E e t ρ B fun ds B1 => ∃ j : Int, ds = [.int j] ∧ -(2 ^ 62) ≤ j ∧ j < 2 ^ 62 ∧ ∃ I : Nat → KE', I 0 ρ B1 ∧ (∀ (i : Nat) ρ' B', i < j.toNat → I i ρ' B' → Wg K g (.int (0 + i)) ρ' B' fun ρ2 B2 => Ws K E e tbody ρ2 B2 { nx := I (i + 1), rt := κ.rt, bk := κ.nx, ct := I (i + 1) }) ∧ ∀ ρ' B', I j.toNat ρ' B' → κ.nx ρ' B') :
    Ws K E e (tFor (iRng1 t) g tbody) ρ B κ := fun σ H G Dn s en x q =>
  h σ H G _ s en x fun ds vs B1 G1 H1 ⟨j, ed, j0, j1, I, i0, hs, hd⟩ e1 r1 => by
    subst ed
    obtain ⟨v, _, rfl, rv, rfl⟩ := r1
    rw [show v = _ from rv]
    exact ⟨j, rfl, j0, j1, for_range_D e1.sub (en.mono e1.le) (x.ext e1) (q.ext e1) I 0 i0 hs hd⟩
/-! ### comprehensions -/
variable {tt : TT} {te : TE} {E1 : XK}
theorem wt_yes {kb : Bool → Int → Prop} (h : kb true B) : Wt K E e tYes ρ B kb := fun σ H G Q s en x q => q _ _ _ _ h (Ext.refl s)
/-- the state of a comprehension whose list stands at L -/
def LcOk (K : PySem.W.Frag) (I : List D → Int → Prop) (L : Addr) (G1 H1 : Hp) (B1 : Int) (H' : Hp) : Prop := ∃ out B' G' acc, I out B' ∧ Ext G1 H1 B1 G' H' B' ∧ G' L = none ∧ H' L = some (.lst acc) ∧ RepL K G' B' out acc
theorem lc_step {I : Nat → List D → Int → Prop} {L : Addr} {G1 H1 : Hp} {B1 : Int} {σ : L2.St} {sl i : Nat} {d : D} {v : V} {H' : Hp} (nL : H1 L = none) (sub1 : Sub G1 H1) (en : EnvR K G1 B1 ρ σ) (h : LcOk K (fun out B => out.length ≤ i ∧ I i out B) L G1 H1 B1 H') (hi : i < sizeLine) (rv : Rep K G1 B1 d v)
    (hs : ∀ out B', I i out B' → Wt K E1 noE tt ((ρ.set sl none).set sl (some d)) B' fun b B3 => (b = true → We K E1 noE te ((ρ.set sl none).set sl (some d)) B3 fun y B4 => I (i + 1) (out ++ [y]) B4) ∧ (b = false → I (i + 1) out B3)) :
    gName sl v (wipe σ [sl]) H' fun σ2 H2 => wipe σ2 [sl] = wipe σ [sl] ∧ tt σ2 H2 fun b H3 => if b = true then te σ2 H3 fun y H4 => ∃ acc, H4 L = some (.lst acc) ∧ acc.length < sizeLine ∧ LcOk K (fun out B => out.length ≤ i + 1 ∧ I (i + 1) out B) L G1 H1 B1 (upd H4 L (.lst (acc ++ [y]))) else LcOk K (fun out B => out.length ≤ i + 1 ∧ I (i + 1) out B) L G1 H1 B1 H3 := by
  obtain ⟨out, B', G', acc, ⟨hl, hI⟩, e2, gL, hL, hr⟩ := h
  refine ⟨?_, ?_⟩
  · show ((σ.set sl none).set sl (some v)).set sl none = σ.set sl none
    rw [List.set_set, List.set_set]
  · have en2 : EnvR K G' B' ((ρ.set sl none).set sl (some d)) ((σ.set sl none).set sl (some v)) := EnvR.set (rv.mono e2.le) sl (EnvR.wipe1 sl (en.mono e2.le))
    refine hs out B' hI _ H' G' _ e2.sub en2 XOk.no fun b B3 G3 H3 h3 e3 => ?_
    cases b with
    | true =>
      rw [if_pos rfl]
      refine h3.1 rfl _ H3 G3 _ e3.sub (en2.mono e3.le) XOk.no fun y w B4 G4 H4 h4 e4 r4 => ?_
      obtain ⟨z1, z2⟩ := (e3.trans e4).fr L _ hL gL (fun _ z => nomatch z)
      refine ⟨acc, z1, by rw [← hr.length]; omega, out ++ [y], B4, G4, acc ++ [w], ⟨by rw [List.length_append, List.length_singleton]; omega, h4⟩, ?_, z2, upd_same, (hr.mono (e3.trans e4).le).append ⟨w, [], rfl, r4, rfl⟩⟩
      have eA := e2.trans (e3.trans e4)
      refine ⟨eA.le, fun a o z => ?_, fun a o z n t => ?_⟩
      · have : a ≠ L := fun q => by rw [q, z2] at z; cases z
        rw [upd_ne this]; exact eA.sub _ _ z
      · have : a ≠ L := ne_of_none z nL
        rw [upd_ne this]
        exact eA.fr _ _ z n t
    | false =>
      rw [if_neg Bool.false_ne_true]
      obtain ⟨z1, z2⟩ := e3.fr L _ hL gL (fun _ z => nomatch z)
      exact ⟨out, B3, G3, acc, ⟨Nat.le_succ_of_le hl, h3.2 rfl⟩, e2.trans e3, z2, z1, hr.mono e3.le⟩
theorem lc_end {I : List D → Int → Prop} {L : Addr} {G H G1 H1 : Hp} {B1 : Int} {Q : VK} {H' : Hp} (e1 : Ext G H B G1 H1 B1) (nL : H1 L = none) (h : LcOk K I L G1 H1 B1 H') (hd : ∀ out B', I out B' → k (.lst out) B') (q : KOk K k Q G H B) : Q (.ref L) H' := by
  obtain ⟨out, B', G', acc, hI, e2, gL, hL, hr⟩ := h
  have le : Le G' B' (upd G' L (.lst acc)) B' := Le.of_sub (fun a o z => by rw [upd_ne (ne_of_none z gL)]; exact z) (Int.le_refl _)
  refine q (.lst out) _ B' (upd G' L (.lst acc)) H' (hd _ _ hI) (e1.trans ⟨e2.le.trans le, fun a o z => ?_, fun a o z n t => ?_⟩) ⟨L, acc, rfl, upd_same, hr.mono le⟩
  · by_cases w : a = L
    · subst w; rw [upd_same] at z; cases z; exact hL
    · rw [upd_ne w] at z; exact e2.sub _ _ z
  · have w : a ≠ L := ne_of_none z nL
    rw [upd_ne w]
    exact e2.fr _ _ z n t
theorem lc_start {I : List D → Int → Prop} {L : Addr} {G1 H1 : Hp} {B1 : Int} (s : Sub G1 H1) (nL : H1 L = none) (h : I [] B1) : LcOk K I L G1 H1 B1 (upd H1 L (.lst [])) := by
  have g : G1 L = none := by
    cases z : G1 L with
    | none => rfl
    | some u => rw [s _ _ z] at nL; cases nL
  exact ⟨[], B1, G1, [], h, Ext.hid s nL, g, upd_same, rfl⟩
theorem LcOk.kept {I : List D → Int → Prop} {L : Addr} {G1 H1 : Hp} {B1 : Int} {H' : Hp} {a : Addr} {o : HO} (h : LcOk K I L G1 H1 B1 H') (ha : G1 a = some o) (n : ¬ IsPen o) : H' a = some o := by
  obtain ⟨out, B', G', acc, hI, e2, gL, hL, hr⟩ := h
  exact e2.sub _ _ (e2.le.keep _ _ ha n)
theorem we_lc_list {sl : Nat} (h : We K E e tl ρ B fun d B1 => ∃ ds, d = .lst ds ∧ ds.length < sizeLine ∧ ∃ I : Nat → List D → Int → Prop, I 0 [] B1 ∧
    (∀ i x out B', ds[i]? = some x → I i out B' → Wt K E1 noE tt ((ρ.set sl none).set sl (some x)) B' fun b B3 => (b = true → We K E1 noE te ((ρ.set sl none).set sl (some x)) B3 fun y B4 => I (i + 1) (out ++ [y]) B4) ∧ (b = false → I (i + 1) out B3)) ∧
    ∀ out B', out.length ≤ ds.length → I ds.length out B' → k (.lst out) B') : We K E e (tLc (iList K tl) (gName sl) tt te [sl]) ρ B k := fun σ H G Q s en x q =>
  h σ H G _ s en x fun d v B1 G1 H1 ⟨ds, ed, dl, I, i0, hs, hd⟩ e1 r1 => by
    subst ed
    obtain ⟨a, vs, rfl, ha, hr⟩ := r1
    refine ⟨a, rfl, ⟨vs, SqL.of (e1.sub _ _ ha)⟩, fun L nL => ?_⟩
    refine lc_list (xs := vs) (fun i H' => LcOk K (fun out B => out.length ≤ i ∧ I i out B) L G1 H1 B1 H') (lc_start e1.sub nL ⟨Nat.le_refl _, i0⟩) (fun i H' _ z => SqL.of (z.kept ha nopen_lst)) ?_ ?_
    · intro i y H' hi hz
      obtain ⟨dx, hdx, rx⟩ := hr.get' hi
      have hlt : i < ds.length := (List.getElem?_eq_some_iff.mp hdx).1
      exact lc_step nL e1.sub (en.mono e1.le) hz (by omega) rx (fun out B' hI => hs i dx out B' hdx hI)
    · intro H' hz
      refine lc_end e1 nL hz (fun out B' hI => ?_) q
      rw [← hr.length] at hI
      exact hd out B' hI.1 hI.2
theorem we_lc_tup {sl : Nat} (h : We K E e tl ρ B fun d B1 => ∃ ds, d = .tup ds ∧ ds.length < sizeLine ∧ ∃ I : Nat → List D → Int → Prop, I 0 [] B1 ∧
    (∀ i x out B', ds[i]? = some x → I i out B' → Wt K E1 noE tt ((ρ.set sl none).set sl (some x)) B' fun b B3 => (b = true → We K E1 noE te ((ρ.set sl none).set sl (some x)) B3 fun y B4 => I (i + 1) (out ++ [y]) B4) ∧ (b = false → I (i + 1) out B3)) ∧
    ∀ out B', out.length ≤ ds.length → I ds.length out B' → k (.lst out) B') : We K E e (tLc (iTup K tl) (gName sl) tt te [sl]) ρ B k := fun σ H G Q s en x q =>
  h σ H G _ s en x fun d v B1 G1 H1 ⟨ds, ed, dl, I, i0, hs, hd⟩ e1 r1 => by
    subst ed
    obtain ⟨a, vs, rfl, ha, hr⟩ := r1
    refine ⟨a, rfl, ⟨vs, (Le.of_sub (B := B) (B' := B) e1.sub (Int.le_refl _)).seqT ha⟩, fun L nL => ?_⟩
    refine lc_tup (xs := vs) (fun i H' => LcOk K (fun out B => out.length ≤ i ∧ I i out B) L G1 H1 B1 H') (lc_start e1.sub nL ⟨Nat.le_refl _, i0⟩) (fun i H' _ z => by
      obtain ⟨out, B', G', acc, hI, e2, _⟩ := z
      exact (Le.of_sub (B := B) (B' := B) e2.sub (Int.le_refl _)).seqT (e2.le.seqT ha)) ?_ ?_
    · intro i y H' hi hz
      obtain ⟨dx, hdx, rx⟩ := hr.get' hi
      have hlt : i < ds.length := (List.getElem?_eq_some_iff.mp hdx).1
      exact lc_step nL e1.sub (en.mono e1.le) hz (by omega) rx (fun out B' hI => hs i dx out B' hdx hI)
    · intro H' hz
      refine lc_end e1 nL hz (fun out B' hI => ?_) q
      rw [← hr.length] at hI
      exact hd out B' hI.1 hI.2
end
end AW

set_option linter.all false
set_option maxRecDepth 100000
set_option maxHeartbeats 4000000
namespace AW
open PySem PySem.Spec PyProof.Rows L2
variable [Tbs]
/-! more operators, by values -/
def CDivG (_ j : Int) : Prop := j ≠ 0 ∧ j.natAbs.log2 < 9000
section
variable {X : Cx}
/-- // by any number of up to 9000 bits -/
theorem op_fdivG : OpR X (binaryOp .FloorDiv) (rI CDivG fun i j => .int (i.fdiv j)) := opI fun _ _ _ _ _ _ _ hc q => floordiv_int hc.1 q (.inl (PyProof.noPylong_of_log2 hc.2))
end
section
variable {K : PySem.W.Frag} {E E' : XK} {e : EW} {ρ : List (Option D)} {B : Int} {k : KD} {κ : KS} {ta tb : TE} {t : TA} {pr : Pr}
theorem we_call0 (h : pr [] B k noE) : We K E e (tCall (spD K pr) [] E' tNil) ρ B k := we_call (wa_nil h)
theorem we_meth0 {C : Addr} {m : Str} (h : We K E e ta ρ B fun d B1 => ∃ ns fs, d = .ins C ns fs ∧ (∀ n ∈ ns, (m == n) = false) ∧ pr [d] B1 k noE) : We K E e (tMeth C m (spD K pr) [] E' ta tNil) ρ B k :=
  we_meth (h.imp fun d B1 ⟨ns, fs, ed, nm, h1⟩ => ⟨ns, fs, ed, nm, wa_nil h1⟩)
theorem we_max2 (h : Wa K E e t ρ B fun ds B1 => ∃ i j, ds = [.int i, .int j] ∧ k (.int (if j > i then j else i)) B1) : We K E e (tCB (fun xs H Q => ∃ i j, xs = [.int i, .int j] ∧ Q (.int (if j > i then j else i)) H) t) ρ B k :=
  we_cb fun σ H G Q s en x q => h σ H G Q s en x fun ds vs B1 G1 H1 h1 e1 r1 => q ds vs B1 G1 H1 (cb_fun2 (f := fun i j => if j > i then j else i) (fun i j H Q q => ⟨i, j, rfl, q⟩) h1) e1 r1
theorem we_min2 (h : Wa K E e t ρ B fun ds B1 => ∃ i j, ds = [.int i, .int j] ∧ k (.int (if j < i then j else i)) B1) : We K E e (tCB (fun xs H Q => ∃ i j, xs = [.int i, .int j] ∧ Q (.int (if j < i then j else i)) H) t) ρ B k :=
  we_cb fun σ H G Q s en x q => h σ H G Q s en x fun ds vs B1 G1 H1 h1 e1 r1 => q ds vs B1 G1 H1 (cb_fun2 (f := fun i j => if j < i then j else i) (fun i j H Q q => ⟨i, j, rfl, q⟩) h1) e1 r1
/-- a statement, what holds behind it, the rest -/
theorem ws_cut {ts us : TS} (J : KE') (h1 : Ws K E e ts ρ B { κ with nx := J }) (h2 : ∀ ρ' B', J ρ' B' → Ws K E e us ρ' B' κ) : Ws K E e (tSeq ts us) ρ B κ :=
  ws_seq fun σ H G Dn s en x q => h1 σ H G Dn s en x ⟨fun ρ' σ' B' G' H' z => q.nx ρ' σ' B' G' H' (h2 ρ' B' z), q.rt, q.bk, q.ct⟩
/-- list + list -/
theorem ro_catL {xs ys : List D} (hl : xs.length + ys.length ≤ sizeLine) (h : k (.lst (xs ++ ys)) B) : Ro K E e rCat (.lst xs) (.lst ys) B k := fun x y H G Q s r1 r2 _ q => by
  obtain ⟨a, vs, rfl, ha, hr⟩ := r1
  obtain ⟨b, ws, rfl, hb, hw⟩ := r2
  exact ⟨a, b, vs, ws, rfl, rfl, s _ _ ha, s _ _ hb, by rw [← hr.length, ← hw.length]; exact hl, fun p np =>
    q _ _ _ _ _ h (Ext.new s np) ⟨p, _, rfl, upd_same, (hr.append hw).mono (Ext.new (B := B) s np).le⟩⟩
end
mutual
/-- data without a dict is equal to itself -/
theorem eqv_self : ∀ d : D, PyData.eqv (py d) (py d) = true
  | .non => rfl
  | .bl b => by cases b <;> rfl
  | .int i => by simp [py, PyData.eqv]
  | .str x => by simp [py, PyData.eqv]
  | .tup ds => by show PyData.eqvAll (pyL ds) (pyL ds) = true; exact eqvAll_self ds
  | .lst ds => by show PyData.eqvAll (pyL ds) (pyL ds) = true; exact eqvAll_self ds
  | .ins _ _ _ => rfl
  | .pen _ _ => rfl
  | .scr _ => rfl
  | .val _ => rfl
  | .lam _ _ => rfl
  | .at_ _ d => eqv_self d
  | .edk => rfl
theorem eqvAll_self : ∀ ds : List D, PyData.eqvAll (pyL ds) (pyL ds) = true
  | [] => rfl
  | d :: ds => by
    show (PyData.eqv (py d) (py d) && PyData.eqvAll (pyL ds) (pyL ds)) = true
    rw [eqv_self d, eqvAll_self ds]
    rfl
end
abbrev t3 (x y a : Int) : D := .tup [.int x, .int y, .int a]
abbrev t2 (x y : Int) : D := .tup [.int x, .int y]
theorem eqv_t3 {x y a x' y' a' : Int} : PyData.eqv (py (t3 x y a)) (py (t3 x' y' a')) = decide (x = x' ∧ y = y' ∧ a = a') := by
  by_cases h : x = x' ∧ y = y' ∧ a = a'
  · obtain ⟨rfl, rfl, rfl⟩ := h
    rw [eqv_self]; simp
  · rw [decide_eq_false h, Bool.eq_false_iff]
    intro z
    simp [py, pyL, PyData.eqv, PyData.eqvAll] at z
    exact h ⟨z.1, z.2.1, z.2.2⟩
theorem shaped_of {d : D} (h1 : (py d).canLay0 = true) (h2 : decide ((py d).depth ≤ 64) = true) : SeqAt.shaped (py d) = true := by
  unfold SeqAt.shaped
  rw [h1, h2]; rfl
end AW

set_option linter.all false
set_option maxRecDepth 100000
set_option maxHeartbeats 4000000
namespace AW
open PySem PySem.Spec PyProof.Rows L2
variable [Tbs]
section
variable {K : PySem.W.Frag} {E E1 : XK} {e : EW} {ρ : List (Option D)} {B : Int} {k : KD} {tl te : TE} {sl : Nat}
theorem map_step {f : D → D} {ds : List D} {i : Nat} {x : D} (h : ds[i]? = some x) : (ds.map f).take i ++ [f x] = (ds.map f).take (i + 1) := by
  have hm : (ds.map f)[i]? = some (f x) := by rw [List.getElem?_map, h]; rfl
  rw [List.take_add_one, hm]
  rfl
/-- [f(x) for x in xs]: each element told, the pens left -/
theorem we_lc_mapT {f : D → D} (h : We K E e tl ρ B fun d B1 => ∃ ds, d = .tup ds ∧ ds.length < sizeLine ∧ (∀ x ∈ ds, ∀ k' : KD, k' (f x) B1 → We K E1 noE te ((ρ.set sl none).set sl (some x)) B1 k') ∧ k (.lst (ds.map f)) B1) :
    We K E e (tLc (iTup K tl) (gName sl) tYes te [sl]) ρ B k := we_lc_tup (E1 := E1) (h.imp fun d B1 ⟨ds, ed, hl, hs, hk⟩ => ⟨ds, ed, hl, fun i out B' => out = (ds.map f).take i ∧ B' = B1, ⟨rfl, rfl⟩, fun i x out B' hi ⟨eo, eB⟩ => wt_yes ⟨fun _ => by
      subst eB
      exact hs x (List.mem_of_getElem? hi) _ ⟨by rw [eo]; exact map_step hi, rfl⟩, fun h => nomatch h⟩, fun out B' _ ⟨eo, eB⟩ => by
      rw [eo, eB, List.take_of_length_le (by rw [List.length_map]; exact Nat.le_refl _)]
      exact hk⟩)
theorem we_lc_mapL {f : D → D} (h : We K E e tl ρ B fun d B1 => ∃ ds, d = .lst ds ∧ ds.length < sizeLine ∧ (∀ x ∈ ds, ∀ k' : KD, k' (f x) B1 → We K E1 noE te ((ρ.set sl none).set sl (some x)) B1 k') ∧ k (.lst (ds.map f)) B1) :
    We K E e (tLc (iList K tl) (gName sl) tYes te [sl]) ρ B k := we_lc_list (E1 := E1) (h.imp fun d B1 ⟨ds, ed, hl, hs, hk⟩ => ⟨ds, ed, hl, fun i out B' => out = (ds.map f).take i ∧ B' = B1, ⟨rfl, rfl⟩, fun i x out B' hi ⟨eo, eB⟩ => wt_yes ⟨fun _ => by
      subst eB
      exact hs x (List.mem_of_getElem? hi) _ ⟨by rw [eo]; exact map_step hi, rfl⟩, fun h => nomatch h⟩, fun out B' _ ⟨eo, eB⟩ => by
      rw [eo, eB, List.take_of_length_le (by rw [List.length_map]; exact Nat.le_refl _)]
      exact hk⟩)
end
/-- what the statement asks of the law -/
def spLaw (K : PySem.W.Frag) : Sp := fun vs H Q E => ∃ (a : Addr) (ns : List Int), vs = [.ref a] ∧ SqL K H a (ns.map V.int) ∧ ns.length ≤ 63 ∧ LamX.Tabs Tbs.T H ∧ ∀ H', Q (.bl true) H'
open Classical in
theorem spLaw_imp {K : PySem.W.Frag} {pr : Pr} (h : ∀ (ns : List Int) (k : KD), ns.length ≤ 63 → (∀ B', k (.bl true) B') → pr [.scr ns] 0 k noE) : ∀ vs H Q E, spLaw K vs H Q E → spD K pr vs H Q E := fun vs H Q E ⟨a, ns, ev, hS, hl, hT, kq⟩ => by
  subst ev
  let G : Hp := fun b => if b = a ∨ (∃ ps, H b = some (.tbl ps)) ∨ (∃ q, H b = some (LamX.CodeO b q)) then H b else none
  have gt : ∀ b, (b = a ∨ (∃ ps, H b = some (.tbl ps)) ∨ (∃ q, H b = some (LamX.CodeO b q))) → G b = H b := fun b h => if_pos h
  have ga : G a = H a := gt a (.inl rfl)
  refine ⟨G, [.scr ns], 0, fun d _ => d = .bl true, noE, fun b o z => ?_, ⟨_, [], rfl, ⟨fun p hp => ?_, a, rfl, ?_⟩, rfl⟩, h ns _ hl (fun _ => rfl), fun d v B' G' H' hd _ hr => ?_, XOk.no⟩
  · by_cases hb : b = a ∨ (∃ ps, H b = some (.tbl ps)) ∨ (∃ q, H b = some (LamX.CodeO b q))
    · rw [gt b hb] at z
      exact z
    · have z2 : G b = none := if_neg hb
      rw [z2] at z
      cases z
  · obtain ⟨ps, h1, h2, h3⟩ := hT p hp
    refine ⟨ps, by rw [gt _ (.inr (.inl ⟨ps, h1⟩))]; exact h1, h2, fun pos cv hc => ?_⟩
    obtain ⟨c, e1, e2⟩ := h3 pos cv hc
    exact ⟨c, e1, by rw [gt _ (.inr (.inr ⟨_, e2⟩))]; exact e2⟩
  · rcases hS with (hS | ⟨o, hS⟩) | hS
    · exact .inl (.inl (ga.trans hS))
    · exact .inl (.inr ⟨o, ga.trans hS⟩)
    · exact .inr hS
  · subst hd
    rw [show v = _ from hr]
    exact kq H'
end AW

set_option linter.all false
set_option maxRecDepth 100000
set_option maxHeartbeats 4000000
namespace AW
open PySem PySem.Spec PyProof.Rows L2 LamX
variable [Tbs]
/-! ### lambdas that are kept, over data -/
def tabD : D → Bool
  | .pen _ _ => true
  | .scr _ => true
  | _ => false
section
variable {K : PySem.W.Frag} {E E' : XK} {e : EW} {ρ : List (Option D)} {B : Int} {k : KD} {κ : KS}
theorem Rep.tabs {G : Hp} : ∀ {d : D} {v : V}, Rep K G B d v → tabD d = true → Tabs Tbs.T G
  | .non, _, _, h => nomatch h
  | .bl _, _, _, h => nomatch h
  | .int _, _, _, h => nomatch h
  | .str _, _, _, h => nomatch h
  | .tup _, _, _, h => nomatch h
  | .lst _, _, _, h => nomatch h
  | .ins _ _ _, _, _, h => nomatch h
  | .val _, _, _, h => nomatch h
  | .lam _ _, _, _, h => nomatch h
  | .at_ _ _, _, _, h => nomatch h
  | .edk, _, _, h => nomatch h
  | .pen _ _, _, h, _ => h.1
  | .scr _, _, h, _ => h.1
theorem grown_ext {P : Addr} {q : Str} {d f : Addr} {G H H1 : Hp} {o : HO} (s : Sub G H) (tG : Tabs Tbs.T G) (hm : (P, q) ∈ Tbs.T) (hu : ∀ p ∈ Tbs.T, p.1 = P → p.2 = q) (gr : Grown P q d H H1) (nf : H1 f = none) :
    ∃ G', Ext G H B (upd G' f o) (upd H1 f o) B ∧ upd G' f o d = some (LamX.CodeO d q) := by
  obtain ⟨psG, gP, gt, ga⟩ := tG _ hm
  have hP := s _ _ gP
  have gnone : ∀ a, H a = none → G a = none := fun a e => by
    cases z : G a with
    | none => rfl
    | some o => rw [s _ _ z] at e; cases e
  rcases gr with ⟨ps, pos, e1, e2, e3⟩ | ⟨ps, pos, e1, e2, e3⟩
  · subst e3
    rw [hP] at e1
    cases e1
    obtain ⟨c, ec, gc⟩ := ga pos _ e2
    cases ec
    exact ⟨G, Ext.new (B := B) (o := o) s nf, by rw [upd_ne (ne_of_none gc (gnone _ nf))]; exact gc⟩
  · subst e3
    rw [hP] at e1
    cases e1
    have nd := gnone _ e2
    have hdf : d ≠ f := fun z => by subst z; rw [upd_same] at nf; cases nf
    have t2 := tabs_grow (pos := pos) tG hm hu gP nd
    have st : Ext G H B (upd (upd G P (.tbl (psG ++ #[rawInt pos.line, rawInt pos.col, .ref d]))) d (CodeO d q)) (upd (upd H P (.tbl (psG ++ #[rawInt pos.line, rawInt pos.col, .ref d]))) d (CodeO d q)) B := by
      have at_ : ∀ a o, G a = some o → (∀ ps, o ≠ .tbl ps) → upd (upd G P (.tbl (psG ++ #[rawInt pos.line, rawInt pos.col, .ref d]))) d (CodeO d q) a = some o := fun a o z n => by
        rw [upd_ne (ne_of_none z nd), upd_ne (fun w => by subst w; rw [gP] at z; exact n _ (Option.some.inj z).symm)]
        exact z
      refine ⟨⟨Int.le_refl _, fun a o z n => at_ a o z fun ps w => n (.inr ⟨ps, w⟩), fun a k l c z r w => ⟨z, r, at_ a _ w (fun _ w => nomatch w), fun x y => ⟨x, y⟩⟩, fun _ => t2⟩, fun a o z => ?_, fun a o z n nt => ?_⟩
      · by_cases h1 : a = d
        · subst h1; rw [upd_same] at z ⊢; exact z
        · rw [upd_ne h1] at z ⊢
          by_cases h2 : a = P
          · subst h2; rw [upd_same] at z ⊢; exact z
          · rw [upd_ne h2] at z ⊢; exact s _ _ z
      · have h1 : a ≠ d := ne_of_none z e2
        have h2 : a ≠ P := fun w => by subst w; rw [hP] at z; exact nt _ (Option.some.inj z).symm
        rw [upd_ne h1, upd_ne h2, upd_ne h1, upd_ne h2]
        exact ⟨z, n⟩
    exact ⟨_, st.trans (Ext.new (B := B) (o := o) st.sub nf), by rw [upd_ne hdf, upd_same]⟩
theorem we_lamval {i : Nat} {d0 : D} {P : Addr} {q : Str} {mk : Addr → Addr → HO} (hi : ρ[i]? = some (some d0)) (ht : tabD d0 = true) (hm : (P, q) ∈ Tbs.T) (hu : ∀ p ∈ Tbs.T, p.1 = P → p.2 = q) (nm : ∀ f d, ¬ IsPen (mk f d))
    (hk : k (.lam q mk) B) : We K E e (tLamV Tbs.T P q mk) ρ B k := fun σ H G Q s en x kq => by
  obtain ⟨v0, _, r0⟩ := en.get hi
  have tG : Tabs Tbs.T G := r0.tabs ht
  refine ⟨tG.ext s, fun f d H1 gr nf => ?_⟩
  obtain ⟨G', ex, kd⟩ := grown_ext (B := B) (o := mk f d) s tG hm hu gr nf
  exact kq _ _ _ _ _ hk ex ⟨f, d, rfl, upd_same, kd, nm f d⟩
/-- what is made of a kept lambda's call: tl, its reading over data; eR and kR, what comes of it -/
structure TTok (K : PySem.W.Frag) (TT : (XK → Hp → VK → Prop) → Hp → VK → Prop) (eR : KD → EW) (kR : KD → KD) : Prop where
  go : ∀ (tl : XK → Hp → VK → Prop) (k : KD) (G H : Hp) (B : Int) (Q : VK), Sub G H → KOk K k Q G H B → (∀ Ech Q', XOk K Ech (eR k) G H B → KOk K (kR k) Q' G H B → tl Ech H Q') → TT tl H Q
theorem we_callK {j : Nat} {q : Str} {mk : Addr → Addr → HO} {TT : (XK → Hp → VK → Prop) → Hp → VK → Prop} {t : XK → TE} {eR : KD → EW} {kR : KD → KD} (tt : TTok K TT eR kR) (hj : ρ[j]? = some (some (.lam q mk)))
    (h : ∀ Ech, We K Ech (eR k) (t Ech) ρ B (kR k)) : We K E e (tCallK j q mk TT t) ρ B k := fun σ H G Q s en x kq => by
  obtain ⟨v, h1, f, d, ev, g1, g2, _⟩ := en.get hj
  subst ev
  exact ⟨f, d, h1, s _ _ g1, s _ _ g2, tt.go _ k G H B Q s kq fun Ech Q' xo ko => h Ech σ H G Q' s en xo ko⟩
theorem we_callB {j : Nat} {vs : List Nat} {q : Str} {mk : Addr → Addr → HO} {TT : (XK → Hp → VK → Prop) → Hp → VK → Prop} {t : XK → TE} {eR : KD → EW} {kR : KD → KD} (tt : TTok K TT eR kR) (hj : ρ[j]? = some (some (.lam q mk)))
    (h : ∀ Ech, We K Ech (eR k) (t Ech) (wipeD ρ vs) B (kR k)) : We K E e (tCallB j vs q mk TT t) ρ B k := fun σ H G Q s en x kq => by
  obtain ⟨v, h1, f, d, ev, g1, g2, _⟩ := en.get hj
  subst ev
  exact ⟨f, d, h1, s _ _ g1, s _ _ g2, tt.go _ k G H B Q s kq fun Ech Q' xo ko => h Ech _ H G Q' s (en.wipe vs) xo ko⟩
/-- a lambda made and handed on at once -/
theorem we_lamarg {i : Nat} {d0 : D} {P : Addr} {q : Str} {mk : Addr → Addr → HO} {TT : (XK → Hp → VK → Prop) → Hp → VK → Prop} {t : XK → TE} {eR : KD → EW} {kR : KD → KD} (tt : TTok K TT eR kR) (hi : ρ[i]? = some (some d0)) (ht : tabD d0 = true) (hm : (P, q) ∈ Tbs.T) (hu : ∀ p ∈ Tbs.T, p.1 = P → p.2 = q)
    (h : ∀ Ech, We K Ech (eR k) (t Ech) ρ B (kR k)) : We K E e (tLamA Tbs.T P q mk TT t) ρ B k := fun σ H G Q s en x kq => by
  obtain ⟨v0, _, r0⟩ := en.get hi
  have tG : Tabs Tbs.T G := r0.tabs ht
  refine ⟨tG.ext s, fun f d H1 gr nf => ?_⟩
  obtain ⟨G', ex, kd⟩ := grown_ext (B := B) (o := mk f d) s tG hm hu gr nf
  exact tt.go _ k _ _ B Q ex.sub (kq.ext ex) fun Ech Q' xo ko => h Ech σ _ _ Q' ex.sub (en.mono ex.le) xo ko
end
end AW

set_option linter.all false
set_option maxRecDepth 100000
set_option maxHeartbeats 4000000
namespace AW
open PySem PySem.Spec PyProof.Rows L2
variable [Tbs]
section
variable {K : PySem.W.Frag} {E E' : XK} {e : EW} {ρ : List (Option D)} {B : Int} {k : KD} {κ : KS} {ta tb : TE} {t : TA} {pr : Pr}
/-- all of them -/
theorem we_all (h : Wa K E e t ρ B fun ds B1 => ∃ bs : List Bool, ds = [.lst (bs.map D.bl)] ∧ k (.bl (bs.all id)) B1) : We K E e (tCB (rAll K) t) ρ B k :=
  we_cb fun σ H G Q s en x q => h σ H G Q s en x fun ds vs B1 G1 H1 ⟨bs, ed, hk⟩ e1 r1 => q ds vs B1 G1 H1 (fun ws H2 G2 Q2 s2 r2 q2 => by
    subst ed
    obtain ⟨v, _, rfl, ⟨a, us, rfl, ha, hr⟩, rfl⟩ := r2
    have z : ∀ (bs : List Bool) (us : List V), RepL K G2 B1 (bs.map D.bl) us → us = bs.map V.bl := by
      intro bs
      induction bs with
      | nil => intro us h; exact h
      | cons b r ih =>
        intro us h
        obtain ⟨v, w, rfl, h1, h2⟩ := h
        rw [show v = _ from h1, ih _ h2]
        rfl
    refine ⟨a, bs, rfl, ?_, q2 _ _ _ _ _ hk (Ext.refl s2) rfl⟩
    rw [← z bs us hr]
    exact SqL.of (s2 _ _ ha)) e1 r1
/-- a value with an address keeps it -/
def refD : D → Bool
  | .tup _ => true
  | .lst _ => true
  | .ins _ _ _ => true
  | .edk => true
  | _ => false
theorem Rep.refD {G : Hp} : ∀ {d : D} {v : V}, Rep K G B d v → AW.refD d = true → ∃ a, v = .ref a
  | .tup _, _, ⟨a, vs, e, _⟩, _ => ⟨a, e⟩
  | .lst _, _, ⟨a, vs, e, _⟩, _ => ⟨a, e⟩
  | .ins _ _ _, _, ⟨a, _, vs, e, _⟩, _ => ⟨a, e⟩
  | .non, _, _, o => nomatch o
  | .bl _, _, _, o => nomatch o
  | .int _, _, _, o => nomatch o
  | .str _, _, _, o => nomatch o
  | .pen _ _, _, _, o => nomatch o
  | .scr _, _, _, o => nomatch o
  | .val _, _, _, o => nomatch o
  | .lam _ _, _, _, o => nomatch o
  | .at_ _ _, _, _, o => nomatch o
  | .edk, _, ⟨a, e, _⟩, _ => ⟨a, e⟩
def seen (d d' : D) : Prop := d' = d ∧ AW.refD d = false ∨ (∃ a, d' = .at_ (.ref a) d) ∧ AW.refD d = true
theorem ws_see {i : Nat} (h : We K E e ta ρ B fun d B1 => ∀ d', seen d d' → κ.nx (ρ.set i (some d')) B1) : Ws K E e (tAsg ta (gName i)) ρ B κ := fun σ H G Dn s en x q =>
  h σ H G _ s en x fun d v B1 G1 H1 h1 e1 r1 => by
    cases z : AW.refD d with
    | false => exact q.nx _ _ _ _ _ (h1 d (.inl ⟨rfl, z⟩)) e1 (EnvR.set r1 i (en.mono e1.le))
    | true =>
      obtain ⟨a, rfl⟩ := r1.refD z
      exact q.nx _ _ _ _ _ (h1 _ (.inr ⟨⟨a, rfl⟩, z⟩)) e1 (EnvR.set (d := .at_ (.ref a) d) ⟨rfl, r1⟩ i (en.mono e1.le))
/-! ### values that are the same, or equal and flat -/
def DSam : Eqv := fun x y _ => ∃ a, x = .ref a ∧ y = .ref a
theorem mon_sam : Mon DSam := fun _ _ _ _ _ d => d
theorem eqG_sam {X : Cx} : EqG X 0 DSam := by
  intro A pins s σ H x y u v sb I rx ry d
  obtain ⟨a, rfl, rfl⟩ := d
  cases rx
  cases ry
  exact SeqAt.EqAt.same (A := A) (s := s) (.ref a) X.prog X.w X.xe _ ⟨rfl, H, I, Ext.rfl'⟩
def DOd : Eqv := fun x y H => DFlat x y H ∨ DSam x y H
theorem rcG_od {X : Cx} : RcG X 1 (DTup X.K DOd) := rcG_tup (mon_flat.or mon_sam) (eqG_flat.or eqG_sam)
theorem rcG_odl {X : Cx} : RcG X 2 (DList (DTup X.K DOd)) := rcG_list (mon_tup (mon_flat.or mon_sam)) (eqG_tup (mon_flat.or mon_sam) (eqG_flat.or eqG_sam))
inductive Alike : D → D → Prop where
  | non : Alike .non .non
  | bl (b : Bool) : Alike (.bl b) (.bl b)
  | int (i : Int) : Alike (.int i) (.int i)
  | str (x : Str) : Alike (.str x) (.str x)
  | at_ (a : Addr) (d d' : D) : Alike (.at_ (.ref a) d) (.at_ (.ref a) d')
theorem Alike.od {G H : Hp} {d d' : D} {v v' : V} (h : Alike d d') (r : Rep K G B d v) (r' : Rep K G B d' v') : DOd v v' H := by
  cases h with
  | non => rw [show v = _ from r, show v' = _ from r']; exact .inl ⟨rfl, rfl, rfl⟩
  | bl b => rw [show v = _ from r, show v' = _ from r']; exact .inl ⟨rfl, rfl, by cases b <;> rfl⟩
  | int i => rw [show v = _ from r, show v' = _ from r']; exact .inl ⟨rfl, rfl, by simp [eqV]⟩
  | str x => rw [show v = _ from r, show v' = _ from r']; exact .inl ⟨rfl, rfl, by simp [eqV]⟩
  | at_ a d d' => exact .inr ⟨a, r.1, r'.1⟩
def flatD : D → Bool
  | .non => true
  | .bl _ => true
  | .int _ => true
  | .str _ => true
  | _ => false
theorem seen.alike {d d' : D} (s : seen d d') (h : (AW.flatD d || AW.refD d) = true) : Alike d' d' := by
  rw [Bool.or_eq_true] at h
  rcases s with ⟨rfl, z⟩ | ⟨⟨a, rfl⟩, _⟩
  · rcases h with h | h
    · cases d' with
      | non => exact .non
      | bl b => exact .bl b
      | int i => exact .int i
      | str x => exact .str x
      | tup _ => cases z
      | lst _ => cases z
      | ins _ _ _ => cases z
      | pen _ _ => cases h
      | scr _ => cases h
      | val _ => cases h
      | lam _ _ => cases h
      | at_ _ _ => cases h
      | edk => cases z
    · rw [h] at z; cases z
  · exact .at_ a _ _
inductive AlikeL : List D → List D → Prop where
  | nil : AlikeL [] []
  | cons {d d' : D} {ds ds' : List D} (h : Alike d d') (r : AlikeL ds ds') : AlikeL (d :: ds) (d' :: ds')
theorem AlikeL.prs {G H : Hp} : ∀ {ds ds' : List D} {vs vs' : List V}, AlikeL ds ds' → RepL K G B ds vs → RepL K G B ds' vs' → Prs DOd vs vs' H := by
  intro ds ds' vs vs' h
  induction h generalizing vs vs' with
  | nil =>
    intro r r'
    rw [show vs = _ from r, show vs' = _ from r']
    exact Prs.nil
  | cons h _ ih =>
    rintro ⟨v, w, rfl, r1, r2⟩ ⟨v', w', rfl, r1', r2'⟩
    exact Prs.cons (h.od r1 r1') (ih r2 r2')
theorem AlikeL.len {ds ds' : List D} (h : AlikeL ds ds') : ds.length = ds'.length := by
  induction h with
  | nil => rfl
  | cons _ _ ih => rw [List.length_cons, List.length_cons, ih]
theorem ro_eqT {ds ds' : List D} (h : AlikeL ds ds') (hk : k (.bl true) B) : Ro K E e (rEqG (DTup K DOd)) (.tup ds) (.tup ds') B k := fun x y H G Q s r1 r2 _ q => by
  obtain ⟨a, vs, rfl, ha, hr⟩ := r1
  obtain ⟨b, ws, rfl, hb, hw⟩ := r2
  have le := Le.of_sub (B := B) (B' := B) s (Int.le_refl _)
  exact ⟨⟨a, b, vs, ws, rfl, rfl, le.seqT ha, le.seqT hb, h.prs hr hw⟩, fun H' ex => q _ _ _ G H' hk ⟨Le.refl _ _, fun a o z => ex _ _ (s _ _ z), fun a o z n _ => ⟨ex _ _ z, n⟩⟩ rfl⟩
inductive AlikeT : List D → List D → Prop where
  | nil : AlikeT [] []
  | cons {as bs : List D} {ds ds' : List D} (h : AlikeL as bs) (r : AlikeT ds ds') : AlikeT (.tup as :: ds) (.tup bs :: ds')
theorem AlikeT.prs {G H : Hp} (s : Sub G H) : ∀ {ds ds' : List D} {vs vs' : List V}, AlikeT ds ds' → RepL K G B ds vs → RepL K G B ds' vs' → Prs (DTup K DOd) vs vs' H := by
  intro ds ds' vs vs' h
  induction h generalizing vs vs' with
  | nil =>
    intro r r'
    rw [show vs = _ from r, show vs' = _ from r']
    exact Prs.nil
  | cons h _ ih =>
    rintro ⟨v, w, rfl, ⟨a, us, rfl, ha, hr⟩, r2⟩ ⟨v', w', rfl, ⟨b, us', rfl, hb, hr'⟩, r2'⟩
    have le := Le.of_sub (B := B) (B' := B) s (Int.le_refl _)
    exact Prs.cons ⟨a, b, us, us', rfl, rfl, le.seqT ha, le.seqT hb, h.prs hr hr'⟩ (ih r2 r2')
theorem ro_eqTs {ds ds' : List D} (h : AlikeT ds ds') (hk : k (.bl true) B) : Ro K E e (rEqG (DList (DTup K DOd))) (.lst ds) (.lst ds') B k := fun x y H G Q s r1 r2 _ q => by
  obtain ⟨a, vs, rfl, ha, hr⟩ := r1
  obtain ⟨b, ws, rfl, hb, hw⟩ := r2
  exact ⟨⟨a, b, vs, ws, rfl, rfl, s _ _ ha, s _ _ hb, h.prs s hr hw⟩, fun H' ex => q _ _ _ G H' hk ⟨Le.refl _ _, fun a o z => ex _ _ (s _ _ z), fun a o z n _ => ⟨ex _ _ z, n⟩⟩ rfl⟩
end
end AW

set_option linter.all false
set_option maxRecDepth 100000
set_option maxHeartbeats 4000000
namespace AW
open PySem PySem.Spec PyProof.Rows L2
variable [Tbs]
/-! ### either reading -/
def tOr2E (t u : TE) : TE := fun σ H Q => t σ H Q ∨ u σ H Q
theorem pe_or2 {X : Cx} {e : Expr} {t u : TE} (h1 : PE X e t) (h2 : PE X e u) : PE X e (tOr2E t u) := ⟨fun pins s σ H Q I h => h.elim (h1.run pins s σ H Q I) (h2.run pins s σ H Q I)⟩
section
variable {K : PySem.W.Frag} {E E' E1 : XK} {e : EW} {ρ : List (Option D)} {B : Int} {k : KD} {κ : KS} {ta tb tl te : TE} {t : TA} {us : TS} {pr : Pr} {i sl : Nat} {ds : List D}
theorem we_orL (h : We K E e ta ρ B k) : We K E e (tOr2E ta tb) ρ B k := fun σ H G Q s en x q => .inl (h σ H G Q s en x q)
theorem we_orR (h : We K E e tb ρ B k) : We K E e (tOr2E ta tb) ρ B k := fun σ H G Q s en x q => .inr (h σ H G Q s en x q)
/-- [f(x) for x in xs]: each element told by itself, the pens left -/
theorem we_lc_each {tl : TE} (h : We K E e tl ρ B fun d B1 => ∃ (ds rs : List D), d = .lst ds ∧ rs.length = ds.length ∧ ds.length < sizeLine ∧
    (∀ (i : Nat) (x r : D), ds[i]? = some x → rs[i]? = some r → ∀ k' : KD, k' r B1 → We K E1 noE te ((ρ.set sl none).set sl (some x)) B1 k') ∧ k (.lst rs) B1) :
    We K E e (tLc (iList K tl) (gName sl) tYes te [sl]) ρ B k := we_lc_list (E1 := E1) (h.imp fun d B1 ⟨ds, rs, ed, hl, hz, hs, hk⟩ => ⟨ds, ed, hz, fun i out B' => out = rs.take i ∧ B' = B1, ⟨rfl, rfl⟩, fun i x out B' hi ⟨eo, eB⟩ => wt_yes ⟨fun _ => by
      subst eB
      have hlt : i < rs.length := by rw [hl]; exact (List.getElem?_eq_some_iff.mp hi).1
      refine hs i x rs[i] hi (List.getElem?_eq_getElem hlt) _ ⟨?_, rfl⟩
      rw [eo, List.take_add_one, List.getElem?_eq_getElem hlt]
      rfl, fun h => nomatch h⟩, fun out B' _ ⟨eo, eB⟩ => by
      rw [eo, eB, ← hl, List.take_length]
      exact hk⟩)
/-! ### a list that is being made -/
theorem EnvR.weakAt {G : Hp} {x : Option V} : ∀ {ρ : List (Option D)} {σ : L2.St} (i : Nat), EnvR K G B ρ σ → EnvR K G B (ρ.set i none) (σ.set i x)
  | [], _, _, h => by rw [show _ = _ from h]; exact rfl
  | _ :: _, _, 0, ⟨y, r, e, h, hr⟩ => ⟨x, r, by rw [e]; rfl, fun d q => (nomatch q), hr⟩
  | _ :: _, _, i + 1, ⟨y, r, e, h, hr⟩ => ⟨y, r.set i x, by rw [e]; rfl, h, EnvR.weakAt i hr⟩
/-- the list at slot i is not told yet: its items are ds -/
def Wsb (K : PySem.W.Frag) (E : XK) (e : EW) (t : TS) (ρ : List (Option D)) (B : Int) (i : Nat) (ds : List D) (κ : KS) : Prop :=
  ∀ σ H G Dn G0 H0 B0 p vs, Sub G H → EnvR K G B ρ σ → σ[i]? = some (some (.ref p)) → H0 p = none → G p = none → H p = some (.lst vs) → RepL K G B ds vs → Ext G0 H0 B0 G H B → XOk K E e G0 H0 B0 → EndsOk K κ Dn G0 H0 B0 → t Dn σ H
theorem wb_start (hi : i < ρ.length) (h : Wa K E e t ρ B fun ds B1 => ds.length ≤ sizeLine ∧ Wsb K E e us (ρ.set i none) B1 i ds κ) : Ws K E e (tSeq (tAsg (tLst t) (gName i)) us) ρ B κ := fun σ H G Dn s en x q =>
  h σ H G _ s en x fun ds vs B1 G1 H1 ⟨h0, h1⟩ e1 r1 => ⟨by rw [← r1.length]; exact h0, fun p np => by
    have g : G1 p = none := by
      cases z : G1 p with
      | none => rfl
      | some u => rw [e1.sub _ _ z] at np; cases np
    have ex : Ext G1 H1 B1 G1 (upd H1 p (.lst vs)) B1 := Ext.hid e1.sub np
    have en1 : EnvR K G1 B1 (ρ.set i none) (σ.set i (some (.ref p))) := by
      exact EnvR.weakAt i (en.mono e1.le)
    refine h1 _ _ G1 Dn G1 H1 B1 p vs ex.sub en1 ?_ np g upd_same r1 ex (x.ext e1) (q.ext e1)
    rw [List.getElem?_set_self (by rw [← en.len]; exact hi)]⟩
theorem wb_append (h : We K E e ta ρ B fun d B1 => ds.length < sizeLine ∧ Wsb K E e us ρ B1 i (ds ++ [d]) κ) : Wsb K E e (tSeq (tDrop (tBM K "list" rAppend (tVar i) (tCons ta tNil))) us) ρ B i ds κ := fun σ H G Dn G0 H0 B0 p vs s en hp np gp hL hr ex x q => by
  refine ⟨.ref p, hp, ?_, ?_⟩
  · exact .inl ⟨rfl, vs, SqL.of hL⟩
  · refine h σ H G _ s en (x.ext ex) fun d v B1 G1 H1 ⟨hl, h1⟩ e1 r1 => ?_
    obtain ⟨z1, z2⟩ := e1.fr p _ hL gp (fun _ z => nomatch z)
    refine ⟨p, vs, v, rfl, rfl, z1, by rw [← hr.length]; exact hl, ?_⟩
    have eA := ex.trans e1
    refine h1 σ (upd H1 p (.lst (vs ++ [v]))) G1 Dn G0 H0 B0 p _ (fun a o z => ?_) (en.mono e1.le) hp np z2 upd_same ((hr.mono e1.le).append ⟨v, [], rfl, r1, rfl⟩) ⟨eA.le, fun a o z => ?_, fun a o z n t => ?_⟩ x q
    · rw [upd_ne (ne_of_none z z2)]; exact e1.sub _ _ z
    · rw [upd_ne (ne_of_none z z2)]; exact e1.sub _ _ z
    · rw [upd_ne (ne_of_none z np)]; exact eA.fr _ _ z n t
theorem wb_end {t : TS} (hi : i < ρ.length) (h : Ws K E e t (ρ.set i (some (.lst ds))) B κ) : Wsb K E e t ρ B i ds κ := fun σ H G Dn G0 H0 B0 p vs s en hp np gp hL hr ex x q => by
  have le : Le G B (upd G p (.lst vs)) B := Le.of_sub (fun a o z => by rw [upd_ne (ne_of_none z gp)]; exact z) (Int.le_refl _)
  have e1 : Ext G0 H0 B0 (upd G p (.lst vs)) H B := ⟨ex.le.trans le, fun a o z => by
    by_cases w : a = p
    · subst w; rw [upd_same] at z; cases z; exact hL
    · rw [upd_ne w] at z; exact s _ _ z, fun a o z n t => by
    rw [upd_ne (ne_of_none z np)]
    exact ex.fr _ _ z n t⟩
  have en1 := EnvR.set (d := .lst ds) (v := .ref p) ⟨p, vs, rfl, upd_same, hr.mono le⟩ i (en.mono le)
  have es : σ.set i (some (V.ref p)) = σ := by
    apply List.ext_getElem?
    intro j
    rw [List.getElem?_set]
    by_cases hj : i = j
    · subst hj
      rw [if_pos rfl, hp]
      split
      · rfl
      · have hl := en.len
        omega
    · rw [if_neg hj]
  rw [es] at en1
  exact h σ H (upd G p (.lst vs)) Dn e1.sub en1 (x.ext e1) (q.ext e1)
end
end AW

set_option linter.all false
set_option maxRecDepth 100000
set_option maxHeartbeats 4000000
namespace AW
open PySem PySem.Spec PyProof.Rows L2
variable [Tbs]
section
variable {K : PySem.W.Frag} {E E' E1 : XK} {e : EW} {ρ : List (Option D)} {B : Int} {k : KD} {κ : KS} {ta tb tl te ty : TE} {tt : TT} {t : TA} {us : TS} {pr : Pr} {i sl : Nat} {ds : List D}
/-- a text's letter -/
theorem ro_ixS {z : Str} {i : Int} {c : _} (hz : z.length ≤ sizeLine) (h : atI z.cps.toList i = some c) (hk : k (.str ⟨#[c]⟩) B) : Ro K E e rIxS (.str z) (.int i) B k := fun x y H G Q s r1 r2 _ q =>
  ⟨z, i, c, r1, r2, hz, h, q _ _ _ _ _ hk (Ext.refl s) rfl⟩
theorem we_gcd3 (h : Wa K E e t ρ B fun ds B1 => ∃ a b c : Int, ds = [.int a, .int b, .int c] ∧ k (.int (((a.natAbs.gcd b.natAbs).gcd c.natAbs : Nat) : Int)) B1) : We K E e (tCB rGcd3 t) ρ B k :=
  we_cb fun σ H G Q s en x q => h σ H G Q s en x fun ds vs B1 G1 H1 ⟨a, b, c, ed, hk⟩ e1 r1 => q ds vs B1 G1 H1 (fun ws H2 G2 Q2 s2 r2 q2 => by
    subst ed
    obtain ⟨_, _, rfl, rfl, _, _, rfl, rfl, _, _, rfl, rfl, rfl⟩ := r2
    exact ⟨a, b, c, rfl, q2 _ _ _ _ _ hk (Ext.refl s2) rfl⟩) e1 r1
theorem ro_neB {i j : Bool} (h : k (.bl (!decide (i = j))) B) : Ro K E e rNe (.bl i) (.bl j) B k := fun x y H G Q s r1 r2 _ q => by
  rw [show x = _ from r1, show y = _ from r2]
  have e1 : decide (V.bl i = V.bl j) = decide (i = j) := by
    by_cases z : i = j
    · subst z; simp
    · rw [decide_eq_false z, decide_eq_false fun w => z (V.bl.inj w)]
  refine ⟨rfl, ?_⟩
  rw [e1]
  exact q _ _ _ _ _ h (Ext.refl s) rfl
theorem ro_eqB {i j : Bool} (h : k (.bl (decide (i = j))) B) : Ro K E e rEq (.bl i) (.bl j) B k := fun x y H G Q s r1 r2 _ q => by
  rw [show x = _ from r1, show y = _ from r2]
  have e1 : decide (V.bl i = V.bl j) = decide (i = j) := by
    by_cases z : i = j
    · subst z; simp
    · rw [decide_eq_false z, decide_eq_false fun w => z (V.bl.inj w)]
  refine ⟨rfl, ?_⟩
  rw [e1]
  exact q _ _ _ _ _ h (Ext.refl s) rfl
/-- isinstance(.., tuple) of a tuple -/
theorem we_isi_tuple (h : Wa K E e t ρ B fun ds B1 => ∃ xs : List D, ds = [.tup xs, .val (.ty "tuple")] ∧ k (.bl true) B1) : We K E e (tCB (rIsi K) t) ρ B k :=
  we_cb fun σ H G Q s en x q => h σ H G Q s en x fun ds vs B1 G1 H1 ⟨xs, ed, hk⟩ e1 r1 => q ds vs B1 G1 H1 (fun ws H2 G2 Q2 s2 r2 q2 => by
    subst ed
    obtain ⟨_, _, rfl, ⟨a, us, rfl, ha, hr⟩, c, _, rfl, rc, rfl⟩ := r2
    rw [show c = _ from rc]
    have hb := (Le.of_sub (B := B1) (B' := B1) s2 (Int.le_refl _)).seqT ha
    have ty : TyX K H2 (.ref a) (.type "tuple") := by
      rcases hb with (hb | ⟨o, hb⟩) | ⟨o, its, n, hk, hc, _⟩
      · exact .base (.tup hb)
      · exact .fTuple hb
      · exact .kTuple hk hc
    exact ⟨_, _, _, _, true, rfl, .ty _, ty, kit_ty (by decide +kernel), q2 _ _ _ _ _ hk (Ext.refl s2) rfl⟩) e1 r1
/-- a tuple of ints of the text -/
theorem we_constT {c : Addr} {ns : List Int} (q : ∀ H : Hp, SqT K H c (ns.map V.int)) (hk : k (.tup (ns.map D.int)) B) : We K E e (tC (.ref c)) ρ B k :=
  We.at (d := .tup (ns.map D.int)) (fun σ H G s en => ⟨.ref c, ⟨c, _, rfl, q G, RepL.ints ns⟩, fun Q q => q⟩) hk
theorem we_intofB (h : Wa K E e t ρ B fun ds B1 => ∃ b : Bool, ds = [.bl b] ∧ k (.int (if b then 1 else 0)) B1) : We K E e (tCB (fun xs H Q => (∃ i, xs = [.int i] ∧ Q (.int i) H) ∨ ∃ k, xs = [.bl k] ∧ Q (.int (if k then 1 else 0)) H) t) ρ B k :=
  we_cb fun σ H G Q s en x q => h σ H G Q s en x fun ds vs B1 G1 H1 ⟨b, ed, hk⟩ e1 r1 => q ds vs B1 G1 H1 (fun ws H2 G2 Q2 s2 r2 q2 => by
    subst ed
    obtain ⟨v, _, rfl, rv, rfl⟩ := r2
    rw [show v = _ from rv]
    exact .inr ⟨b, rfl, q2 _ _ _ _ _ hk (Ext.refl s2) rfl⟩) e1 r1
theorem we_lenS (h : Wa K E e t ρ B fun ds B1 => ∃ ns : List Int, ds = [.scr ns] ∧ k (.int ns.length) B1) : We K E e (tCB (fun xs H Q => ∃ p ys, xs = [.ref p] ∧ (SqL K H p ys ∨ SqT K H p ys) ∧ Q (.int ys.length) H) t) ρ B k :=
  we_cb fun σ H G Q s en x q => h σ H G Q s en x fun ds vs B1 G1 H1 ⟨ns, ed, h1⟩ e1 r1 => q ds vs B1 G1 H1 (fun ws H2 G2 Q2 s2 r2 q2 => by
    subst ed
    obtain ⟨v, _, rfl, ⟨_, a, rfl, ha⟩, rfl⟩ := r2
    exact ⟨a, _, rfl, .inl ((Le.of_sub (B := B1) (B' := B1) s2 (Int.le_refl _)).seqL ha), by rw [List.length_map]; exact q2 _ _ _ _ _ h1 (Ext.refl s2) rfl⟩) e1 r1
/-- raise C() -/
theorem ws_raise0 {C : Addr} (h : e C none B) : Ws K E e (fun _ σ H => (fun (_ : L2.St) (H : Hp) (Q : XK) => Q (.ref C) none H) σ H fun cls d H' => E cls d H') ρ B κ := fun σ H G Dn s en x q => x C none B G H h (Ext.refl s)
/-- xs[::-1] -/
theorem we_revL (h : We K E e ta ρ B fun d B1 => ∃ ds, d = .lst ds ∧ k (.lst ds.reverse) B1) : We K E e (tRevL K ta) ρ B k := fun σ H G Q s en x q =>
  h σ H G _ s en x fun d v B1 G1 H1 ⟨ds, ed, hk⟩ e1 r1 => by
    subst ed
    obtain ⟨a, vs, rfl, ha, hr⟩ := r1
    have rev : ∀ (ds : List D) (vs : List V), RepL K G1 B1 ds vs → RepL K G1 B1 ds.reverse vs.reverse := by
      intro ds
      induction ds with
      | nil => intro vs h; rw [show vs = _ from h]; exact rfl
      | cons d r ih =>
        intro vs h
        obtain ⟨v, w, rfl, h1, h2⟩ := h
        rw [List.reverse_cons, List.reverse_cons]
        exact (ih _ h2).append ⟨v, [], rfl, h1, rfl⟩
    refine ⟨a, vs, rfl, SqL.of (e1.sub _ _ ha), fun p np => q _ _ _ _ _ hk (e1.trans (Ext.new (B := B1) e1.sub np)) ⟨p, _, rfl, upd_same, (rev ds vs hr).mono (Ext.new (B := B1) e1.sub np).le⟩⟩
/-- xs * n -/
theorem ro_rep {xs : List D} {n : Int} (h0 : -(2 ^ 63) ≤ n) (h1 : n < 2 ^ 63) (hl : xs.length * n.toNat ≤ sizeLine) (hk : k (.lst (List.replicate n.toNat xs).flatten) B) : Ro K E e rRep (.lst xs) (.int n) B k := fun x y H G Q s r1 r2 _ q => by
  obtain ⟨a, vs, rfl, ha, hr⟩ := r1
  have rep : ∀ m : Nat, RepL K G B (List.replicate m xs).flatten (List.replicate m vs).flatten := by
    intro m
    induction m with
    | zero => exact rfl
    | succ m ih =>
      rw [List.replicate_succ, List.replicate_succ, List.flatten_cons, List.flatten_cons]
      exact hr.append ih
  exact ⟨a, n, vs, rfl, r2, s _ _ ha, h0, h1, by rw [← hr.length]; exact hl, fun p np => q _ _ _ _ _ hk (Ext.new (B := B) s np) ⟨p, _, rfl, upd_same, (rep _).mono (Ext.new (B := B) s np).le⟩⟩
/-- list(script) -/
theorem we_listS (h : Wa K E e t ρ B fun ds B1 => ∃ ns : List Int, ds = [.scr ns] ∧ k (.lst (ns.map D.int)) B1) :
    We K E e (tCB (fun xs H Q => ∃ p ys, xs = [.ref p] ∧ (SqL K H p ys ∨ SqT K H p ys) ∧ ∀ l, H l = none → Q (.ref l) (upd H l (.lst ys))) t) ρ B k :=
  we_cb fun σ H G Q s en x q => h σ H G Q s en x fun ds vs B1 G1 H1 ⟨ns, ed, hk⟩ e1 r1 => q ds vs B1 G1 H1 (fun ws H2 G2 Q2 s2 r2 q2 => by
    subst ed
    obtain ⟨v, _, rfl, ⟨_, a, rfl, ha⟩, rfl⟩ := r2
    have ha2 : SqL K H2 a (ns.map V.int) := (Le.of_sub (B := B1) (B' := B1) s2 (Int.le_refl _)).seqL ha
    exact ⟨a, _, rfl, .inl ha2, fun l nl => q2 _ _ _ _ _ hk (Ext.new (B := B1) s2 nl) ⟨l, _, rfl, upd_same, RepL.ints ns⟩⟩) e1 r1
theorem we_edk (hk : k .edk B) : We K E e tDNewK ρ B k := fun σ H G Q s en x q p np => q _ _ _ _ _ hk (Ext.new (B := B) s np) ⟨p, rfl, upd_same⟩
/-! ### {..}[key] -/
def lookD (l : List (Str × D)) (z : Str) : Option D := l.foldl (fun o kv => if kv.1 = z then some kv.2 else o) none
def Wps (K : PySem.W.Frag) (E : XK) (e : EW) (ρ : List (Option D)) : List (TE × TE) → Int → (List (Str × D) → Int → Prop) → Prop
  | [], B, k => k [] B
  | (tk, tv) :: r, B, k => We K E e tk ρ B fun a B1 => ∃ z, a = .str z ∧ We K E e tv ρ B1 fun d B2 => Wps K E e ρ r B2 fun l B3 => k ((z, d) :: l) B3
theorem wps_run : ∀ (trs : List (TE × TE)) {B : Int} {k : List (Str × D) → Int → Prop}, Wps K E e ρ trs B k → ∀ σ H G (Q : List (V × V) → Hp → Prop), Sub G H → EnvR K G B ρ σ → XOk K E e G H B →
    (∀ l (vs : List V) B' G' H', k l B' → Ext G H B G' H' B' → RepL K G' B' (l.map (·.2)) vs → Q ((l.map (·.1)).zip vs |>.map fun p => (V.str p.1, p.2)) H') → tPairs trs σ H Q
  | [], B, k, h, σ, H, G, Q, s, en, x, q => by
    have := q [] [] B G H h (Ext.refl s) rfl
    exact this
  | (tk, tv) :: r, B, k, h, σ, H, G, Q, s, en, x, q => by
    refine h σ H G _ s en x fun a v B1 G1 H1 ⟨z, ez, h1⟩ e1 r1 => ?_
    subst ez
    rw [show v = _ from r1]
    refine h1 σ H1 G1 _ e1.sub (en.mono e1.le) (x.ext e1) fun d w B2 G2 H2 h2 e2 r2 => ?_
    refine wps_run r h2 σ H2 G2 _ e2.sub ((en.mono e1.le).mono e2.le) ((x.ext e1).ext e2) fun l vs B3 G3 H3 hk e3 r3 => ?_
    exact q ((z, d) :: l) (w :: vs) B3 G3 H3 hk ((e1.trans e2).trans e3) ⟨w, vs, rfl, r2.mono e3.le, r3⟩
theorem look_merge {G : Hp} {B : Int} (z : Str) : ∀ (l : List (Str × D)) (vs : List V) (acc : List (Key × V)) (o : Option D), RepL K G B (l.map (·.2)) vs → (∀ d, o = some d → ∃ v, valV acc (Sum.inr z) = some v ∧ Rep K G B d v) →
    ∀ d, l.foldl (fun o kv => if kv.1 = z then some kv.2 else o) o = some d → ∃ v, valV (mergeK acc ((l.map (·.1)).zip vs |>.map fun p => ((Sum.inr p.1 : Key), p.2))) (Sum.inr z) = some v ∧ Rep K G B d v
  | [], vs, acc, o, hr, ho, d, h => by
    rw [show vs = _ from hr]
    exact ho d h
  | (y, d0) :: l, vs, acc, o, hr, ho, d, h => by
    obtain ⟨v, w, rfl, h1, h2⟩ := hr
    refine look_merge z l w (putK acc (Sum.inr y) v) (if y = z then some d0 else o) h2 (fun d1 e1 => ?_) d h
    rw [valV_put]
    by_cases hy : y = z
    · subst hy
      rw [if_pos rfl] at e1
      cases e1
      exact ⟨v, if_pos rfl, h1⟩
    · rw [if_neg hy] at e1
      obtain ⟨u, k1, k2⟩ := ho d1 e1
      refine ⟨u, ?_, k2⟩
      rw [if_neg (fun w => hy (Sum.inr.inj w).symm)]
      exact k1
theorem we_dsel {trs : List (TE × TE)} (h : Wps K E e ρ trs B fun l B1 => l.length ≤ 15 ∧ We K E e ty ρ B1 fun kd B2 => ∃ z d, kd = .str z ∧ lookD l z = some d ∧ k d B2) : We K E e (tDGet (tDisp trs) ty) ρ B k := fun σ H G Q s en x q => by
  intro p np
  have ex := Ext.hid (B := B) (o := .dK []) s np
  have gp : G p = none := by
    cases z : G p with
    | none => rfl
    | some u => rw [s _ _ z] at np; cases np
  refine wps_run trs h σ _ G _ ex.sub en (x.ext ex) fun l vs B1 G1 H1 ⟨hl, h1⟩ e1 r1 => ?_
  obtain ⟨z1, z2⟩ := e1.fr p _ upd_same gp (fun _ z => nomatch z)
  have hll : l.length = vs.length := by rw [← r1.length, List.length_map]
  refine ⟨z1, (l.map (·.1)).zip vs |>.map fun p => ((Sum.inr p.1 : Key), p.2), ?_, ?_, ?_⟩
  · rw [List.map_map]
    rfl
  · rw [List.length_map, List.length_zip, List.length_map, ← hll, Nat.min_self]
    exact hl
  · have eA : Ext G H B G1 (upd H1 p (.dK (mergeK [] ((l.map (·.1)).zip vs |>.map fun p => ((Sum.inr p.1 : Key), p.2))))) B1 := by
      have eB := ex.trans e1
      refine ⟨eB.le, fun a o z => ?_, fun a o z n t => ?_⟩
      · rw [upd_ne (ne_of_none z z2)]; exact e1.sub _ _ z
      · rw [upd_ne (ne_of_none z np)]; exact eB.fr _ _ z n t
    refine h1 σ _ G1 _ eA.sub (en.mono eA.le) (x.ext eA) fun kd v B2 G2 H2 ⟨z, d, ez, hz, hk⟩ e2 r2 => ?_
    subst ez
    rw [show v = _ from r2]
    obtain ⟨y1, y2⟩ := e2.fr p _ upd_same z2 (fun _ z => nomatch z)
    obtain ⟨v, w1, w2⟩ := look_merge (K := K) (G := G1) (B := B1) z l vs [] none r1 (fun d q => nomatch q) d hz
    exact ⟨p, v, rfl, by rw [← w1]; exact DGet.k (k := Sum.inr z) y1, q _ _ _ _ _ hk (eA.trans e2) (w2.mono e2.le)⟩
/-! ### comprehensions over a range -/
theorem we_lc_range1 (h : Wa K E e t ρ B fun as B1 => ∃ j : Int, as = [.int j] ∧ -(2 ^ 62) ≤ j ∧ j < 2 ^ 62 ∧ j.toNat < sizeLine ∧ ∃ I : Nat → List D → Int → Prop, I 0 [] B1 ∧
    (∀ (i : Nat) out B', i < j.toNat → I i out B' → Wt K E1 noE tt ((ρ.set sl none).set sl (some (.int (0 + i)))) B' fun b B3 => (b = true → We K E1 noE te ((ρ.set sl none).set sl (some (.int (0 + i)))) B3 fun y B4 => I (i + 1) (out ++ [y]) B4) ∧ (b = false → I (i + 1) out B3)) ∧
    ∀ out B', out.length ≤ j.toNat → I j.toNat out B' → k (.lst out) B') : We K E e (tLc (iRng1 t) (gName sl) tt te [sl]) ρ B k := fun σ H G Q s en x q =>
  h σ H G _ s en x fun as vs B1 G1 H1 ⟨j, ed, j0, j1, jl, I, i0, hs, hd⟩ e1 r1 => by
    subst ed
    obtain ⟨v, _, rfl, rv, rfl⟩ := r1
    rw [show v = _ from rv]
    refine ⟨j, rfl, j0, j1, fun L nL => ?_⟩
    refine lc_range (fun i H' => LcOk K (fun out B => out.length ≤ i ∧ I i out B) L G1 H1 B1 H') (lc_start e1.sub nL ⟨Nat.le_refl _, i0⟩) ?_ ?_
    · intro i H' hi hz
      have hz2 := hz
      exact lc_step nL e1.sub (en.mono e1.le) hz (by omega) (d := .int (0 + i)) rfl (fun out B' hI => hs i out B' hi hI)
    · intro H' hz
      exact lc_end e1 nL hz (fun out B' hI => hd out B' hI.1 hI.2) q
/-- [f(i) for i in range(j)], the pens left -/
theorem we_lc_rangeF (h : Wa K E e t ρ B fun as B1 => ∃ j : Int, as = [.int j] ∧ -(2 ^ 62) ≤ j ∧ j < 2 ^ 62 ∧ j.toNat < sizeLine ∧ ∃ f : Nat → D, (∀ i : Nat, i < j.toNat → ∀ k' : KD, k' (f i) B1 → We K E1 noE te ((ρ.set sl none).set sl (some (.int (0 + i)))) B1 k') ∧ k (.lst ((List.range j.toNat).map f)) B1) :
    We K E e (tLc (iRng1 t) (gName sl) tYes te [sl]) ρ B k := we_lc_range1 (E1 := E1) fun σ H G Q s en x q => h σ H G Q s en x fun as vs B1 G1 H1 ⟨j, ed, j0, j1, jl, f, hs, hk⟩ e1 r1 => q as vs B1 G1 H1 ⟨j, ed, j0, j1, jl, fun i out B' => out = (List.range i).map f ∧ B1 = B', ⟨rfl, rfl⟩, fun i out B' hi ⟨eo, eB⟩ => by
      subst eo eB
      refine wt_yes ⟨fun _ => hs i hi _ ⟨?_, rfl⟩, fun z => nomatch z⟩
      rw [List.range_succ, List.map_append]
      rfl, fun out B' _ ⟨eo, eB⟩ => by
      subst eo eB
      exact hk⟩ e1 r1
end
end AW

set_option linter.all false
set_option maxRecDepth 100000
set_option maxHeartbeats 4000000
namespace AW
open PySem PySem.Spec PyProof.Rows L2
def top (i : Nat) : Stmt := PySem.Challenge.pw_areawalks_k19_whole_spheres.main.body.getD i (.Pass ⟨0, 0, 0, 0⟩)
abbrev s_BadNumber_init : Stmt := inClass (top 2) 0
abbrev s_is_integer : Stmt := top 4
abbrev s_check_from : Stmt := top 5
abbrev s_check_whole : Stmt := top 6
abbrev s_sphere : Stmt := top 9
abbrev s_ball : Stmt := top 10
abbrev s_places_within : Stmt := top 11
abbrev s_l_pen : Stmt := top 13
abbrev s_l_draw : Stmt := top 14
abbrev s_l_pick : Stmt := top 15
abbrev s_l_great : Stmt := top 16
abbrev s_l_reached : Stmt := top 17
abbrev s_l_carried : Stmt := top 18
abbrev s_l_refused : Stmt := top 19
abbrev s_law : Stmt := top 20
abbrev N_BadNumber_init : List Str := ["self", "value"]
abbrev P_BadNumber_init : List Str := ["self", "value"]
theorem sc_BadNumber_init : FnScope N_BadNumber_init P_BadNumber_init (defScope s_BadNumber_init) := ⟨rfl, rfl, rfl, by decide +kernel, rfl, by decide +kernel, by decide +kernel⟩
abbrev N_is_integer : List Str := ["value"]
abbrev P_is_integer : List Str := ["value"]
theorem sc_is_integer : FnScope N_is_integer P_is_integer (defScope s_is_integer) := ⟨rfl, rfl, rfl, by decide +kernel, rfl, by decide +kernel, by decide +kernel⟩
abbrev N_check_from : List Str := ["value", "least"]
abbrev P_check_from : List Str := ["value", "least"]
theorem sc_check_from : FnScope N_check_from P_check_from (defScope s_check_from) := ⟨rfl, rfl, rfl, by decide +kernel, rfl, by decide +kernel, by decide +kernel⟩
abbrev N_check_whole : List Str := ["value"]
abbrev P_check_whole : List Str := ["value"]
theorem sc_check_whole : FnScope N_check_whole P_check_whole (defScope s_check_whole) := ⟨rfl, rfl, rfl, by decide +kernel, rfl, by decide +kernel, by decide +kernel⟩
abbrev N_sphere : List Str := ["number"]
abbrev P_sphere : List Str := ["number"]
theorem sc_sphere : FnScope N_sphere P_sphere (defScope s_sphere) := ⟨rfl, rfl, rfl, by decide +kernel, rfl, by decide +kernel, by decide +kernel⟩
abbrev N_ball : List Str := ["number"]
abbrev P_ball : List Str := ["number"]
theorem sc_ball : FnScope N_ball P_ball (defScope s_ball) := ⟨rfl, rfl, rfl, by decide +kernel, rfl, by decide +kernel, by decide +kernel⟩
abbrev N_places_within : List Str := ["number", "last"]
abbrev P_places_within : List Str := ["number"]
theorem sc_places_within : FnScope N_places_within P_places_within (defScope s_places_within) := ⟨rfl, rfl, rfl, by decide +kernel, rfl, by decide +kernel, by decide +kernel⟩
abbrev N_l_pen : List Str := ["_law_script"]
abbrev P_l_pen : List Str := ["_law_script"]
theorem sc_l_pen : FnScope N_l_pen P_l_pen (defScope s_l_pen) := ⟨rfl, rfl, rfl, by decide +kernel, rfl, by decide +kernel, by decide +kernel⟩
abbrev N_l_draw : List Str := ["_law_pen_here", "_law_span", "_law_digit", "_law_at", "_law_cell", "_law_mash"]
abbrev P_l_draw : List Str := ["_law_pen_here", "_law_span"]
theorem sc_l_draw : FnScope N_l_draw P_l_draw (defScope s_l_draw) := ⟨rfl, rfl, rfl, by decide +kernel, rfl, by decide +kernel, by decide +kernel⟩
abbrev N_l_pick : List Str := ["_law_pen_here", "_law_items"]
abbrev P_l_pick : List Str := ["_law_pen_here", "_law_items"]
theorem sc_l_pick : FnScope N_l_pick P_l_pick (defScope s_l_pick) := ⟨rfl, rfl, rfl, by decide +kernel, rfl, by decide +kernel, by decide +kernel⟩
abbrev N_l_great : List Str := ["_law_pen_here", "_law_figures", "_law_found", "_law_go"]
abbrev P_l_great : List Str := ["_law_pen_here", "_law_figures"]
theorem sc_l_great : FnScope N_l_great P_l_great (defScope s_l_great) := ⟨rfl, rfl, rfl, by decide +kernel, rfl, by decide +kernel, by decide +kernel⟩
abbrev N_l_reached : List Str := ["_law_number", "_law_found", "_law_x", "_law_y", "_law_extra", "_law_best", "_law_go", "_law_size"]
abbrev P_l_reached : List Str := ["_law_number"]
theorem sc_l_reached : FnScope N_l_reached P_l_reached (defScope s_l_reached) := ⟨rfl, rfl, rfl, by decide +kernel, rfl, by decide +kernel, by decide +kernel⟩
abbrev N_l_carried : List Str := ["_law_row", "_law_at", "_law_total", "_law_k", "_law_part", "_law_below", "_law_j"]
abbrev P_l_carried : List Str := ["_law_row", "_law_at"]
theorem sc_l_carried : FnScope N_l_carried P_l_carried (defScope s_l_carried) := ⟨rfl, rfl, rfl, by decide +kernel, rfl, by decide +kernel, by decide +kernel⟩
abbrev N_l_refused : List Str := ["_law_deed", "e"]
abbrev P_l_refused : List Str := ["_law_deed"]
theorem sc_l_refused : FnScope N_l_refused P_l_refused (defScope s_l_refused) := ⟨rfl, rfl, rfl, by decide +kernel, rfl, by decide +kernel, by decide +kernel⟩
abbrev N_law : List Str := ["_law_script", "_law_pen_here", "_law_lap", "_law_number", "_law_inner", "_law_due", "_law_distant", "_law_first", "_law_laps", "_law_odd", "_law_some", "_law_k"]
abbrev P_law : List Str := ["_law_script"]
theorem sc_law : FnScope N_law P_law (defScope s_law) := ⟨rfl, rfl, rfl, by decide +kernel, rfl, by decide +kernel, by decide +kernel⟩
/-- a def whose code object is known -/
structure FunC (K : PySem.W.Frag) (x qual : Str) (st : Stmt) (f : Addr) (fd : FuncData) (c : Addr) : Prop where
  ex : ∃ (oc : Value) (od : Option Addr) (kV doc pm : Value) (an : Option Addr) (ct : Value) (osl : Array (Option Value)),
    fd = PySem.W.fnOf x qual (defArgs st) (defBody st) (defScope st) .none kV doc pm an (.ref c) ct ∧ K.lookup f = some ⟨oc, od, .func fd, osl⟩ ∧ PySem.W.codeIn K (.ref c) qual = true
  kp : PySem.W.keepIn K (.ref f) = true
section
variable {P : Program} {w : World} {K : PySem.W.Frag} {mg : Str → Option Value} {base : Heap}
theorem FunC.okX {x qual : Str} {st : Stmt} {f : Addr} {fd : FuncData} {c : Addr} {N ps : List Str} {k : Nat} {sp : Sp} (F : FunC K x qual st f fd c) (S : FnScope N ps (defScope st)) (len : ∀ vs H Q E, sp vs H Q E → vs.length = ps.length)
    (hbody : ∀ (A : Around) (outer : List Env) (s : Shared) (H : Hp) (vs : List V) (Q : VK) (E : XK), Room k (A.deeper (envOfC qual (defScope st) s.heap.objs.size f (.ref c))) → sp vs H Q E →
      ∃ t, PSs (cxOf (L2.CX P w) P w K mg base N qual (defScope st) f (.ref c) A outer s H E) (defBody st) t ∧ t { nx := fun _ H' => Q .non H', rt := Q } (start N vs) H) : FnOk P w K mg base (L2.CX P w) (k + 1) f fd ps sp := by
  obtain ⟨oc, od, kV, doc, pm, an, ct, osl, rfl, lk, hcd⟩ := F.ex
  exact fn_of lk hcd S len fun A outer s H vs Q E hr hsp => hbody A outer s H vs Q E hr hsp
end
/-- what the top has left -/
structure Tx (K : PySem.W.Frag) (mg : Str → Option Value) where
  a_is_integer : Addr
  d_is_integer : FuncData
  F_is_integer : Fun K "is_integer" "is_integer" s_is_integer a_is_integer d_is_integer
  b_is_integer : Binds K d_is_integer P_is_integer []
  g_is_integer : mg "is_integer" = some (.ref a_is_integer)
  a_check_from : Addr
  d_check_from : FuncData
  F_check_from : Fun K "check_from" "check_from" s_check_from a_check_from d_check_from
  b_check_from : Binds K d_check_from P_check_from []
  g_check_from : mg "check_from" = some (.ref a_check_from)
  a_check_whole : Addr
  d_check_whole : FuncData
  F_check_whole : Fun K "check_whole" "check_whole" s_check_whole a_check_whole d_check_whole
  b_check_whole : Binds K d_check_whole P_check_whole []
  g_check_whole : mg "check_whole" = some (.ref a_check_whole)
  a_sphere : Addr
  d_sphere : FuncData
  F_sphere : Fun K "sphere" "sphere" s_sphere a_sphere d_sphere
  b_sphere : Binds K d_sphere P_sphere []
  g_sphere : mg "sphere" = some (.ref a_sphere)
  a_ball : Addr
  d_ball : FuncData
  F_ball : Fun K "ball" "ball" s_ball a_ball d_ball
  b_ball : Binds K d_ball P_ball []
  g_ball : mg "ball" = some (.ref a_ball)
  a_places_within : Addr
  d_places_within : FuncData
  F_places_within : Fun K "places_within" "places_within" s_places_within a_places_within d_places_within
  b_places_within : Binds K d_places_within P_places_within []
  g_places_within : mg "places_within" = some (.ref a_places_within)
  a_l_pen : Addr
  d_l_pen : FuncData
  F_l_pen : Fun K "_law_pen" "_law_pen" s_l_pen a_l_pen d_l_pen
  b_l_pen : Binds K d_l_pen P_l_pen []
  g_l_pen : mg "_law_pen" = some (.ref a_l_pen)
  a_l_draw : Addr
  d_l_draw : FuncData
  F_l_draw : Fun K "_law_draw" "_law_draw" s_l_draw a_l_draw d_l_draw
  b_l_draw : Binds K d_l_draw P_l_draw []
  g_l_draw : mg "_law_draw" = some (.ref a_l_draw)
  a_l_pick : Addr
  d_l_pick : FuncData
  F_l_pick : Fun K "_law_pick" "_law_pick" s_l_pick a_l_pick d_l_pick
  b_l_pick : Binds K d_l_pick P_l_pick []
  g_l_pick : mg "_law_pick" = some (.ref a_l_pick)
  a_l_great : Addr
  d_l_great : FuncData
  F_l_great : Fun K "_law_great" "_law_great" s_l_great a_l_great d_l_great
  b_l_great : Binds K d_l_great P_l_great []
  g_l_great : mg "_law_great" = some (.ref a_l_great)
  a_l_reached : Addr
  d_l_reached : FuncData
  F_l_reached : Fun K "_law_reached" "_law_reached" s_l_reached a_l_reached d_l_reached
  b_l_reached : Binds K d_l_reached P_l_reached []
  g_l_reached : mg "_law_reached" = some (.ref a_l_reached)
  a_l_carried : Addr
  d_l_carried : FuncData
  F_l_carried : Fun K "_law_carried" "_law_carried" s_l_carried a_l_carried d_l_carried
  b_l_carried : Binds K d_l_carried P_l_carried []
  g_l_carried : mg "_law_carried" = some (.ref a_l_carried)
  a_l_refused : Addr
  d_l_refused : FuncData
  F_l_refused : Fun K "_law_refused" "_law_refused" s_l_refused a_l_refused d_l_refused
  b_l_refused : Binds K d_l_refused P_l_refused []
  g_l_refused : mg "_law_refused" = some (.ref a_l_refused)
  a_law : Addr
  d_law : FuncData
  cc_law : Addr
  pt_law : Addr
  h_law : PySem.W.codeHdIn K cc_law pt_law = true
  n_law : K.lookup pt_law = none
  FC_law : FunC K "law" "law" s_law a_law d_law cc_law
  F_law : Fun K "law" "law" s_law a_law d_law
  b_law : Binds K d_law P_law []
  g_law : mg "law" = some (.ref a_law)
  C_WalkError : Addr
  g_C_WalkError : mg "WalkError" = some (.ref C_WalkError)
  X_WalkError : OexC K C_WalkError
  Y_WalkError : XfC K C_WalkError
  C_BadNumber : Addr
  g_C_BadNumber : mg "BadNumber" = some (.ref C_BadNumber)
  a_BadNumber_init : Addr
  d_BadNumber_init : FuncData
  F_BadNumber_init : Fun K "__init__" "BadNumber.__init__" s_BadNumber_init a_BadNumber_init d_BadNumber_init
  b_BadNumber_init : Binds K d_BadNumber_init P_BadNumber_init []
  X_BadNumber : OexC K C_BadNumber
  Y_BadNumber : XfC K C_BadNumber
  ei_BadNumber : PySem.W.findIn K (.ref C_BadNumber) "__init__" = some (some (.ref a_BadNumber_init))
  et_BadNumber : PySem.W.typeIn K (.ref a_BadNumber_init) = some (.type "function")
  na_BadNumber_value : PySem.W.findIn K (.ref C_BadNumber) "value" = some none
  em_BadNumber_BadNumber : PySem.W.exmOne K (.ref C_BadNumber) (.ref C_BadNumber) = some true
  n_bool : mg "bool" = none
  n_int : mg "int" = none
  n_isinstance : mg "isinstance" = none
  n_len : mg "len" = none
  n_list : mg "list" = none
  n_min : mg "min" = none
  n_range : mg "range" = none
  c_LAST_FIGURES : Addr
  gc_LAST_FIGURES : mg "LAST_FIGURES" = some (.ref c_LAST_FIGURES)
  qc_LAST_FIGURES : ∀ H : Hp, SqT K H c_LAST_FIGURES [V.int 72, V.int 72, V.int 44, V.int 108, V.int 72, V.int 8, V.int 108, V.int 108, V.int 8, V.int 72, V.int 108, V.int 44]
theorem tx_mk {K : PySem.W.Frag} {h : Heap} {mg : Str → Option Value} {fa : Addr} {f_BadNumber_init : Addr} {od_BadNumber_init an_BadNumber_init : Option Addr} {sl_BadNumber_init : Array (Option Value)} {oc_BadNumber_init kV_BadNumber_init dc_BadNumber_init pm_BadNumber_init cd_BadNumber_init ct_BadNumber_init : Value}
    {f_is_integer : Addr} {od_is_integer an_is_integer : Option Addr} {sl_is_integer : Array (Option Value)} {oc_is_integer kV_is_integer dc_is_integer pm_is_integer cd_is_integer ct_is_integer : Value}
    {f_check_from : Addr} {od_check_from an_check_from : Option Addr} {sl_check_from : Array (Option Value)} {oc_check_from kV_check_from dc_check_from pm_check_from cd_check_from ct_check_from : Value}
    {f_check_whole : Addr} {od_check_whole an_check_whole : Option Addr} {sl_check_whole : Array (Option Value)} {oc_check_whole kV_check_whole dc_check_whole pm_check_whole cd_check_whole ct_check_whole : Value}
    {f_sphere : Addr} {od_sphere an_sphere : Option Addr} {sl_sphere : Array (Option Value)} {oc_sphere kV_sphere dc_sphere pm_sphere cd_sphere ct_sphere : Value}
    {f_ball : Addr} {od_ball an_ball : Option Addr} {sl_ball : Array (Option Value)} {oc_ball kV_ball dc_ball pm_ball cd_ball ct_ball : Value}
    {f_places_within : Addr} {od_places_within an_places_within : Option Addr} {sl_places_within : Array (Option Value)} {oc_places_within kV_places_within dc_places_within pm_places_within cd_places_within ct_places_within : Value}
    {f_l_pen : Addr} {od_l_pen an_l_pen : Option Addr} {sl_l_pen : Array (Option Value)} {oc_l_pen kV_l_pen dc_l_pen pm_l_pen cd_l_pen ct_l_pen : Value}
    {f_l_draw : Addr} {od_l_draw an_l_draw : Option Addr} {sl_l_draw : Array (Option Value)} {oc_l_draw kV_l_draw dc_l_draw pm_l_draw cd_l_draw ct_l_draw : Value}
    {f_l_pick : Addr} {od_l_pick an_l_pick : Option Addr} {sl_l_pick : Array (Option Value)} {oc_l_pick kV_l_pick dc_l_pick pm_l_pick cd_l_pick ct_l_pick : Value}
    {f_l_great : Addr} {od_l_great an_l_great : Option Addr} {sl_l_great : Array (Option Value)} {oc_l_great kV_l_great dc_l_great pm_l_great cd_l_great ct_l_great : Value}
    {f_l_reached : Addr} {od_l_reached an_l_reached : Option Addr} {sl_l_reached : Array (Option Value)} {oc_l_reached kV_l_reached dc_l_reached pm_l_reached cd_l_reached ct_l_reached : Value}
    {f_l_carried : Addr} {od_l_carried an_l_carried : Option Addr} {sl_l_carried : Array (Option Value)} {oc_l_carried kV_l_carried dc_l_carried pm_l_carried cd_l_carried ct_l_carried : Value}
    {f_l_refused : Addr} {od_l_refused an_l_refused : Option Addr} {sl_l_refused : Array (Option Value)} {oc_l_refused kV_l_refused dc_l_refused pm_l_refused cd_l_refused ct_l_refused : Value}
    {cc_law pt_law : Addr}
    {f_law : Addr} {od_law an_law : Option Addr} {sl_law : Array (Option Value)} {oc_law kV_law dc_law pm_law ct_law : Value}
    {C_WalkError : Addr}
    {C_BadNumber : Addr}
    {nm_WalkError qn_WalkError : Str} {NN_WalkError : Addr} {bs_WalkError sb_WalkError : List Value} {sn_WalkError : List Str} {ab_WalkError : Bool} {co_WalkError : Option Bool} {dd_WalkError : Option Addr} {m0_WalkError m1_WalkError m2_WalkError m3_WalkError m5_WalkError : Option Value}
    {nm_BadNumber qn_BadNumber : Str} {NN_BadNumber : Addr} {bs_BadNumber sb_BadNumber : List Value} {sn_BadNumber : List Str} {ab_BadNumber : Bool} {co_BadNumber : Option Bool} {dd_BadNumber : Option Addr} {m0_BadNumber m1_BadNumber m2_BadNumber m3_BadNumber m5_BadNumber : Option Value}
    {k_LAST_FIGURES : Addr} {od_LAST_FIGURES : Option Addr} {its_LAST_FIGURES : Array Value} {n_LAST_FIGURES : Nat} {sl_LAST_FIGURES : Array (Option Value)}
    (X : K.In h) (G : h.Ns mainGlobals mg) (hfa : mg "law" = some (.ref fa))
    (g_is_integer : PySem.W.nsIn K mainGlobals "is_integer" = some (some (.ref f_is_integer)))
    (l_is_integer : K.lookup f_is_integer = some ⟨oc_is_integer, od_is_integer, .func (PySem.W.fnOf "is_integer" "is_integer" (defArgs s_is_integer) (defBody s_is_integer) (defScope s_is_integer) .none kV_is_integer dc_is_integer pm_is_integer an_is_integer cd_is_integer ct_is_integer), sl_is_integer⟩)
    (c_is_integer : PySem.W.codeIn K cd_is_integer "is_integer" = true)
    (k_is_integer : PySem.W.keepIn K (.ref f_is_integer) = true)
    (g_check_from : PySem.W.nsIn K mainGlobals "check_from" = some (some (.ref f_check_from)))
    (l_check_from : K.lookup f_check_from = some ⟨oc_check_from, od_check_from, .func (PySem.W.fnOf "check_from" "check_from" (defArgs s_check_from) (defBody s_check_from) (defScope s_check_from) .none kV_check_from dc_check_from pm_check_from an_check_from cd_check_from ct_check_from), sl_check_from⟩)
    (c_check_from : PySem.W.codeIn K cd_check_from "check_from" = true)
    (k_check_from : PySem.W.keepIn K (.ref f_check_from) = true)
    (g_check_whole : PySem.W.nsIn K mainGlobals "check_whole" = some (some (.ref f_check_whole)))
    (l_check_whole : K.lookup f_check_whole = some ⟨oc_check_whole, od_check_whole, .func (PySem.W.fnOf "check_whole" "check_whole" (defArgs s_check_whole) (defBody s_check_whole) (defScope s_check_whole) .none kV_check_whole dc_check_whole pm_check_whole an_check_whole cd_check_whole ct_check_whole), sl_check_whole⟩)
    (c_check_whole : PySem.W.codeIn K cd_check_whole "check_whole" = true)
    (k_check_whole : PySem.W.keepIn K (.ref f_check_whole) = true)
    (g_sphere : PySem.W.nsIn K mainGlobals "sphere" = some (some (.ref f_sphere)))
    (l_sphere : K.lookup f_sphere = some ⟨oc_sphere, od_sphere, .func (PySem.W.fnOf "sphere" "sphere" (defArgs s_sphere) (defBody s_sphere) (defScope s_sphere) .none kV_sphere dc_sphere pm_sphere an_sphere cd_sphere ct_sphere), sl_sphere⟩)
    (c_sphere : PySem.W.codeIn K cd_sphere "sphere" = true)
    (k_sphere : PySem.W.keepIn K (.ref f_sphere) = true)
    (g_ball : PySem.W.nsIn K mainGlobals "ball" = some (some (.ref f_ball)))
    (l_ball : K.lookup f_ball = some ⟨oc_ball, od_ball, .func (PySem.W.fnOf "ball" "ball" (defArgs s_ball) (defBody s_ball) (defScope s_ball) .none kV_ball dc_ball pm_ball an_ball cd_ball ct_ball), sl_ball⟩)
    (c_ball : PySem.W.codeIn K cd_ball "ball" = true)
    (k_ball : PySem.W.keepIn K (.ref f_ball) = true)
    (g_places_within : PySem.W.nsIn K mainGlobals "places_within" = some (some (.ref f_places_within)))
    (l_places_within : K.lookup f_places_within = some ⟨oc_places_within, od_places_within, .func (PySem.W.fnOf "places_within" "places_within" (defArgs s_places_within) (defBody s_places_within) (defScope s_places_within) .none kV_places_within dc_places_within pm_places_within an_places_within cd_places_within ct_places_within), sl_places_within⟩)
    (c_places_within : PySem.W.codeIn K cd_places_within "places_within" = true)
    (k_places_within : PySem.W.keepIn K (.ref f_places_within) = true)
    (g_l_pen : PySem.W.nsIn K mainGlobals "_law_pen" = some (some (.ref f_l_pen)))
    (l_l_pen : K.lookup f_l_pen = some ⟨oc_l_pen, od_l_pen, .func (PySem.W.fnOf "_law_pen" "_law_pen" (defArgs s_l_pen) (defBody s_l_pen) (defScope s_l_pen) .none kV_l_pen dc_l_pen pm_l_pen an_l_pen cd_l_pen ct_l_pen), sl_l_pen⟩)
    (c_l_pen : PySem.W.codeIn K cd_l_pen "_law_pen" = true)
    (k_l_pen : PySem.W.keepIn K (.ref f_l_pen) = true)
    (g_l_draw : PySem.W.nsIn K mainGlobals "_law_draw" = some (some (.ref f_l_draw)))
    (l_l_draw : K.lookup f_l_draw = some ⟨oc_l_draw, od_l_draw, .func (PySem.W.fnOf "_law_draw" "_law_draw" (defArgs s_l_draw) (defBody s_l_draw) (defScope s_l_draw) .none kV_l_draw dc_l_draw pm_l_draw an_l_draw cd_l_draw ct_l_draw), sl_l_draw⟩)
    (c_l_draw : PySem.W.codeIn K cd_l_draw "_law_draw" = true)
    (k_l_draw : PySem.W.keepIn K (.ref f_l_draw) = true)
    (g_l_pick : PySem.W.nsIn K mainGlobals "_law_pick" = some (some (.ref f_l_pick)))
    (l_l_pick : K.lookup f_l_pick = some ⟨oc_l_pick, od_l_pick, .func (PySem.W.fnOf "_law_pick" "_law_pick" (defArgs s_l_pick) (defBody s_l_pick) (defScope s_l_pick) .none kV_l_pick dc_l_pick pm_l_pick an_l_pick cd_l_pick ct_l_pick), sl_l_pick⟩)
    (c_l_pick : PySem.W.codeIn K cd_l_pick "_law_pick" = true)
    (k_l_pick : PySem.W.keepIn K (.ref f_l_pick) = true)
    (g_l_great : PySem.W.nsIn K mainGlobals "_law_great" = some (some (.ref f_l_great)))
    (l_l_great : K.lookup f_l_great = some ⟨oc_l_great, od_l_great, .func (PySem.W.fnOf "_law_great" "_law_great" (defArgs s_l_great) (defBody s_l_great) (defScope s_l_great) .none kV_l_great dc_l_great pm_l_great an_l_great cd_l_great ct_l_great), sl_l_great⟩)
    (c_l_great : PySem.W.codeIn K cd_l_great "_law_great" = true)
    (k_l_great : PySem.W.keepIn K (.ref f_l_great) = true)
    (g_l_reached : PySem.W.nsIn K mainGlobals "_law_reached" = some (some (.ref f_l_reached)))
    (l_l_reached : K.lookup f_l_reached = some ⟨oc_l_reached, od_l_reached, .func (PySem.W.fnOf "_law_reached" "_law_reached" (defArgs s_l_reached) (defBody s_l_reached) (defScope s_l_reached) .none kV_l_reached dc_l_reached pm_l_reached an_l_reached cd_l_reached ct_l_reached), sl_l_reached⟩)
    (c_l_reached : PySem.W.codeIn K cd_l_reached "_law_reached" = true)
    (k_l_reached : PySem.W.keepIn K (.ref f_l_reached) = true)
    (g_l_carried : PySem.W.nsIn K mainGlobals "_law_carried" = some (some (.ref f_l_carried)))
    (l_l_carried : K.lookup f_l_carried = some ⟨oc_l_carried, od_l_carried, .func (PySem.W.fnOf "_law_carried" "_law_carried" (defArgs s_l_carried) (defBody s_l_carried) (defScope s_l_carried) .none kV_l_carried dc_l_carried pm_l_carried an_l_carried cd_l_carried ct_l_carried), sl_l_carried⟩)
    (c_l_carried : PySem.W.codeIn K cd_l_carried "_law_carried" = true)
    (k_l_carried : PySem.W.keepIn K (.ref f_l_carried) = true)
    (g_l_refused : PySem.W.nsIn K mainGlobals "_law_refused" = some (some (.ref f_l_refused)))
    (l_l_refused : K.lookup f_l_refused = some ⟨oc_l_refused, od_l_refused, .func (PySem.W.fnOf "_law_refused" "_law_refused" (defArgs s_l_refused) (defBody s_l_refused) (defScope s_l_refused) .none kV_l_refused dc_l_refused pm_l_refused an_l_refused cd_l_refused ct_l_refused), sl_l_refused⟩)
    (c_l_refused : PySem.W.codeIn K cd_l_refused "_law_refused" = true)
    (k_l_refused : PySem.W.keepIn K (.ref f_l_refused) = true)
    (g_law : PySem.W.nsIn K mainGlobals "law" = some (some (.ref f_law)))
    (l_law : K.lookup f_law = some ⟨oc_law, od_law, .func (PySem.W.fnOf "law" "law" (defArgs s_law) (defBody s_law) (defScope s_law) .none kV_law dc_law pm_law an_law (Value.ref cc_law) ct_law), sl_law⟩)
    (c_law : PySem.W.codeIn K (Value.ref cc_law) "law" = true)
    (h_law : PySem.W.codeHdIn K cc_law pt_law = true)
    (n_law : K.lookup pt_law = none)
    (k_law : PySem.W.keepIn K (.ref f_law) = true)
    (g_C_WalkError : PySem.W.nsIn K mainGlobals "WalkError" = some (some (.ref C_WalkError)))
    (sa_WalkError : PySem.W.findIn K (.ref C_WalkError) "__setattr__" = some (some (.builtin "object.__setattr__")))
    (ex_WalkError : PySem.W.subIn K (.ref C_WalkError) (.type "BaseException") = some true)
    (ty_WalkError : PySem.W.typeIn K (.ref C_WalkError) = some (.type "type"))
    (kc_WalkError : PySem.W.keepIn K (.ref C_WalkError) = true)
    (ga_WalkError : PySem.W.findIn K (.ref C_WalkError) "__getattribute__" = some (some (.builtin "BaseException.__getattribute__")))
    (gg_WalkError : PySem.W.findIn K (.ref C_WalkError) "__getattr__" = some none)
    (hd_WalkError : PySem.W.hasDictIn K C_WalkError = true)
    (ic_WalkError : PySem.W.isClsIn K C_WalkError = true)
    (x_WalkError : K.lookup C_WalkError = some (excClassObj nm_WalkError qn_WalkError C_WalkError NN_WalkError bs_WalkError [.type "ValueError", .type "Exception", .type "BaseException", .type "object"] true sn_WalkError sb_WalkError ab_WalkError co_WalkError dd_WalkError m0_WalkError m1_WalkError m2_WalkError m3_WalkError m5_WalkError "ValueError.__new__"))
    (g_C_BadNumber : PySem.W.nsIn K mainGlobals "BadNumber" = some (some (.ref C_BadNumber)))
    (m_BadNumber_init : PySem.W.findIn K (.ref C_BadNumber) "__init__" = some (some (.ref f_BadNumber_init)))
    (i_BadNumber_init : PySem.W.isFn K (.ref f_BadNumber_init) = true)
    (l_BadNumber_init : K.lookup f_BadNumber_init = some ⟨oc_BadNumber_init, od_BadNumber_init, .func (PySem.W.fnOf "__init__" "BadNumber.__init__" (defArgs s_BadNumber_init) (defBody s_BadNumber_init) (defScope s_BadNumber_init) .none kV_BadNumber_init dc_BadNumber_init pm_BadNumber_init an_BadNumber_init cd_BadNumber_init ct_BadNumber_init), sl_BadNumber_init⟩)
    (c_BadNumber_init : PySem.W.codeIn K cd_BadNumber_init "BadNumber.__init__" = true)
    (k_BadNumber_init : PySem.W.keepIn K (.ref f_BadNumber_init) = true)
    (sa_BadNumber : PySem.W.findIn K (.ref C_BadNumber) "__setattr__" = some (some (.builtin "object.__setattr__")))
    (ex_BadNumber : PySem.W.subIn K (.ref C_BadNumber) (.type "BaseException") = some true)
    (ty_BadNumber : PySem.W.typeIn K (.ref C_BadNumber) = some (.type "type"))
    (kc_BadNumber : PySem.W.keepIn K (.ref C_BadNumber) = true)
    (ga_BadNumber : PySem.W.findIn K (.ref C_BadNumber) "__getattribute__" = some (some (.builtin "BaseException.__getattribute__")))
    (gg_BadNumber : PySem.W.findIn K (.ref C_BadNumber) "__getattr__" = some none)
    (hd_BadNumber : PySem.W.hasDictIn K C_BadNumber = true)
    (ic_BadNumber : PySem.W.isClsIn K C_BadNumber = true)
    (x_BadNumber : K.lookup C_BadNumber = some (excClassObj nm_BadNumber qn_BadNumber C_BadNumber NN_BadNumber bs_BadNumber [.ref C_WalkError, .type "ValueError", .type "Exception", .type "BaseException", .type "object"] true sn_BadNumber sb_BadNumber ab_BadNumber co_BadNumber dd_BadNumber m0_BadNumber m1_BadNumber m2_BadNumber m3_BadNumber m5_BadNumber "ValueError.__new__"))
    (na_BadNumber_value : PySem.W.findIn K (.ref C_BadNumber) "value" = some none)
    (em_BadNumber_BadNumber : PySem.W.exmOne K (.ref C_BadNumber) (.ref C_BadNumber) = some true)
    (n_bool : PySem.W.nsIn K mainGlobals "bool" = some none)
    (n_int : PySem.W.nsIn K mainGlobals "int" = some none)
    (n_isinstance : PySem.W.nsIn K mainGlobals "isinstance" = some none)
    (n_len : PySem.W.nsIn K mainGlobals "len" = some none)
    (n_list : PySem.W.nsIn K mainGlobals "list" = some none)
    (n_min : PySem.W.nsIn K mainGlobals "min" = some none)
    (n_range : PySem.W.nsIn K mainGlobals "range" = some none)
    (gc_LAST_FIGURES : PySem.W.nsIn K mainGlobals "LAST_FIGURES" = some (some (.ref k_LAST_FIGURES)))
    (lc_LAST_FIGURES : K.lookup k_LAST_FIGURES = some ⟨.type "tuple", od_LAST_FIGURES, .seq its_LAST_FIGURES n_LAST_FIGURES, sl_LAST_FIGURES⟩)
    (vc_LAST_FIGURES : its_LAST_FIGURES.toList.map absV = ([V.int 72, V.int 72, V.int 44, V.int 108, V.int 72, V.int 8, V.int 108, V.int 108, V.int 8, V.int 72, V.int 108, V.int 44]).map some) {goal : Prop} (kk : ∀ T : Tx K mg, T.a_law = fa → T.pt_law = pt_law → goal) : goal := by
  refine kk { a_is_integer := (f_is_integer), d_is_integer := (_), F_is_integer := (fun_mk (st := s_is_integer) l_is_integer c_is_integer k_is_integer), b_is_integer := ((fun_mk (st := s_is_integer) l_is_integer c_is_integer k_is_integer).binds (ps := P_is_integer) fun _ _ _ _ _ _ us hl => match us, hl with | [_], _ => rfl), g_is_integer := (PySem.W.mg_of X G g_is_integer), a_check_from := (f_check_from), d_check_from := (_), F_check_from := (fun_mk (st := s_check_from) l_check_from c_check_from k_check_from), b_check_from := ((fun_mk (st := s_check_from) l_check_from c_check_from k_check_from).binds (ps := P_check_from) fun _ _ _ _ _ _ us hl => match us, hl with | [_, _], _ => rfl), g_check_from := (PySem.W.mg_of X G g_check_from), a_check_whole := (f_check_whole), d_check_whole := (_), F_check_whole := (fun_mk (st := s_check_whole) l_check_whole c_check_whole k_check_whole), b_check_whole := ((fun_mk (st := s_check_whole) l_check_whole c_check_whole k_check_whole).binds (ps := P_check_whole) fun _ _ _ _ _ _ us hl => match us, hl with | [_], _ => rfl), g_check_whole := (PySem.W.mg_of X G g_check_whole), a_sphere := (f_sphere), d_sphere := (_), F_sphere := (fun_mk (st := s_sphere) l_sphere c_sphere k_sphere), b_sphere := ((fun_mk (st := s_sphere) l_sphere c_sphere k_sphere).binds (ps := P_sphere) fun _ _ _ _ _ _ us hl => match us, hl with | [_], _ => rfl), g_sphere := (PySem.W.mg_of X G g_sphere), a_ball := (f_ball), d_ball := (_), F_ball := (fun_mk (st := s_ball) l_ball c_ball k_ball), b_ball := ((fun_mk (st := s_ball) l_ball c_ball k_ball).binds (ps := P_ball) fun _ _ _ _ _ _ us hl => match us, hl with | [_], _ => rfl), g_ball := (PySem.W.mg_of X G g_ball), a_places_within := (f_places_within), d_places_within := (_), F_places_within := (fun_mk (st := s_places_within) l_places_within c_places_within k_places_within), b_places_within := ((fun_mk (st := s_places_within) l_places_within c_places_within k_places_within).binds (ps := P_places_within) fun _ _ _ _ _ _ us hl => match us, hl with | [_], _ => rfl), g_places_within := (PySem.W.mg_of X G g_places_within), a_l_pen := (f_l_pen), d_l_pen := (_), F_l_pen := (fun_mk (st := s_l_pen) l_l_pen c_l_pen k_l_pen), b_l_pen := ((fun_mk (st := s_l_pen) l_l_pen c_l_pen k_l_pen).binds (ps := P_l_pen) fun _ _ _ _ _ _ us hl => match us, hl with | [_], _ => rfl), g_l_pen := (PySem.W.mg_of X G g_l_pen), a_l_draw := (f_l_draw), d_l_draw := (_), F_l_draw := (fun_mk (st := s_l_draw) l_l_draw c_l_draw k_l_draw), b_l_draw := ((fun_mk (st := s_l_draw) l_l_draw c_l_draw k_l_draw).binds (ps := P_l_draw) fun _ _ _ _ _ _ us hl => match us, hl with | [_, _], _ => rfl), g_l_draw := (PySem.W.mg_of X G g_l_draw), a_l_pick := (f_l_pick), d_l_pick := (_), F_l_pick := (fun_mk (st := s_l_pick) l_l_pick c_l_pick k_l_pick), b_l_pick := ((fun_mk (st := s_l_pick) l_l_pick c_l_pick k_l_pick).binds (ps := P_l_pick) fun _ _ _ _ _ _ us hl => match us, hl with | [_, _], _ => rfl), g_l_pick := (PySem.W.mg_of X G g_l_pick), a_l_great := (f_l_great), d_l_great := (_), F_l_great := (fun_mk (st := s_l_great) l_l_great c_l_great k_l_great), b_l_great := ((fun_mk (st := s_l_great) l_l_great c_l_great k_l_great).binds (ps := P_l_great) fun _ _ _ _ _ _ us hl => match us, hl with | [_, _], _ => rfl), g_l_great := (PySem.W.mg_of X G g_l_great), a_l_reached := (f_l_reached), d_l_reached := (_), F_l_reached := (fun_mk (st := s_l_reached) l_l_reached c_l_reached k_l_reached), b_l_reached := ((fun_mk (st := s_l_reached) l_l_reached c_l_reached k_l_reached).binds (ps := P_l_reached) fun _ _ _ _ _ _ us hl => match us, hl with | [_], _ => rfl), g_l_reached := (PySem.W.mg_of X G g_l_reached), a_l_carried := (f_l_carried), d_l_carried := (_), F_l_carried := (fun_mk (st := s_l_carried) l_l_carried c_l_carried k_l_carried), b_l_carried := ((fun_mk (st := s_l_carried) l_l_carried c_l_carried k_l_carried).binds (ps := P_l_carried) fun _ _ _ _ _ _ us hl => match us, hl with | [_, _], _ => rfl), g_l_carried := (PySem.W.mg_of X G g_l_carried), a_l_refused := (f_l_refused), d_l_refused := (_), F_l_refused := (fun_mk (st := s_l_refused) l_l_refused c_l_refused k_l_refused), b_l_refused := ((fun_mk (st := s_l_refused) l_l_refused c_l_refused k_l_refused).binds (ps := P_l_refused) fun _ _ _ _ _ _ us hl => match us, hl with | [_], _ => rfl), g_l_refused := (PySem.W.mg_of X G g_l_refused), a_law := (f_law), d_law := (_), cc_law := (cc_law), pt_law := (pt_law), h_law := (h_law), n_law := (n_law), FC_law := (⟨⟨_, _, _, _, _, _, _, _, rfl, l_law, c_law⟩, k_law⟩), F_law := (fun_mk (st := s_law) l_law c_law k_law), b_law := ((fun_mk (st := s_law) l_law c_law k_law).binds (ps := P_law) fun _ _ _ _ _ _ us hl => match us, hl with | [_], _ => rfl), g_law := (PySem.W.mg_of X G g_law), C_WalkError := (C_WalkError), g_C_WalkError := (PySem.W.mg_of X G g_C_WalkError), X_WalkError := (⟨⟨nm_WalkError, qn_WalkError, NN_WalkError, bs_WalkError, _, sn_WalkError, sb_WalkError, ab_WalkError, co_WalkError, dd_WalkError, m0_WalkError, m1_WalkError, m2_WalkError, m3_WalkError, m5_WalkError, x_WalkError, rfl⟩, sa_WalkError, ex_WalkError, ty_WalkError, kc_WalkError⟩), Y_WalkError := (⟨ga_WalkError, gg_WalkError, ex_WalkError, hd_WalkError⟩), C_BadNumber := (C_BadNumber), g_C_BadNumber := (PySem.W.mg_of X G g_C_BadNumber), a_BadNumber_init := (f_BadNumber_init), d_BadNumber_init := (_), F_BadNumber_init := (fun_mk (st := s_BadNumber_init) l_BadNumber_init c_BadNumber_init k_BadNumber_init), b_BadNumber_init := ((fun_mk (st := s_BadNumber_init) l_BadNumber_init c_BadNumber_init k_BadNumber_init).binds (ps := P_BadNumber_init) fun _ _ _ _ _ _ us hl => match us, hl with | [_, _], _ => rfl), X_BadNumber := (⟨⟨nm_BadNumber, qn_BadNumber, NN_BadNumber, bs_BadNumber, _, sn_BadNumber, sb_BadNumber, ab_BadNumber, co_BadNumber, dd_BadNumber, m0_BadNumber, m1_BadNumber, m2_BadNumber, m3_BadNumber, m5_BadNumber, x_BadNumber, rfl⟩, sa_BadNumber, ex_BadNumber, ty_BadNumber, kc_BadNumber⟩), Y_BadNumber := (⟨ga_BadNumber, gg_BadNumber, ex_BadNumber, hd_BadNumber⟩), ei_BadNumber := (m_BadNumber_init), et_BadNumber := (beq_iff_eq.mp i_BadNumber_init), na_BadNumber_value := (na_BadNumber_value), em_BadNumber_BadNumber := (em_BadNumber_BadNumber), n_bool := (PySem.W.mg_none_of X G n_bool), n_int := (PySem.W.mg_none_of X G n_int), n_isinstance := (PySem.W.mg_none_of X G n_isinstance), n_len := (PySem.W.mg_none_of X G n_len), n_list := (PySem.W.mg_none_of X G n_list), n_min := (PySem.W.mg_none_of X G n_min), n_range := (PySem.W.mg_none_of X G n_range), c_LAST_FIGURES := (k_LAST_FIGURES), gc_LAST_FIGURES := (PySem.W.mg_of X G gc_LAST_FIGURES), qc_LAST_FIGURES := (fun _ => sqT_const lc_LAST_FIGURES vc_LAST_FIGURES (by decide)) } ?_ rfl
  have e := hfa.symm.trans (PySem.W.mg_of X G g_law)
  cases e
  rfl
end AW

set_option linter.all false
set_option maxRecDepth 100000
set_option maxHeartbeats 8000000
namespace AW
open PySem PySem.Spec PyProof.Rows L2
section
variable {K : PySem.W.Frag} {mg : Str → Option Value}
theorem Same.laid {H : Hp} {p : Addr} {o : HO} (h : H p = none) : Same H (upd H p o) := fun b u e => by rw [upd_ne (ne_of_none e h)]; exact e
theorem Same.after {H H1 : Hp} {p : Addr} {o : HO} (s : Same H H1) (h : H1 p = none) : Same H (upd H1 p o) := s.trans (Same.laid h)
def intV : V → Bool
  | .int _ => true
  | _ => false
def TyT (t : Value) : Prop := t = .type "NoneType" ∨ t = .type "bool" ∨ t = .type "int" ∨ t = .type "str" ∨ t = .type "list" ∨ t = .type "tuple" ∨ t = .type "dict"
def isI (t : Value) : Bool := t == .type "int" || t == .type "bool"
def isB (t : Value) : Bool := t == .type "bool"
theorem kit_int {t : Value} (h : TyT t) : PySem.W.kitOne K t (.type "int") = some (isI t) := by
  rcases h with rfl | rfl | rfl | rfl | rfl | rfl | rfl
  all_goals exact kit_ty (by decide +kernel)
theorem kit_bool {t : Value} (h : TyT t) : PySem.W.kitOne K t (.type "bool") = some (isB t) := by
  rcases h with rfl | rfl | rfl | rfl | rfl | rfl | rfl
  all_goals exact kit_ty (by decide +kernel)
end
section
variable {P : Program} {w : World} {K : PySem.W.Frag} {mg : Str → Option Value} {base : Heap}
/-- what an own error of a base def lets out, by the def's own wish -/
theorem passE {X : Cx} {E : XK} {E₁ : Value → Shared → Prop} (hs : X.stack = X.env :: X.outer := by rfl) (hf : X.env.frame = some X.env.locals := by rfl) (hex : X.ex = [] := by rfl)
    (hx : X.xe = fun e s' => wpAny (model X.prog X.w) X.A (leaving X.env e) (fun _ s'' => L2.CX X.prog X.w X.outer X.H_0 X.s_0 E e s'') E₁ s' := by rfl) : Passes (L2.CX X.prog X.w) X E :=
  passes_call (takes_of hs hf hex hx) (fun _ _ _ _ h => h)
def sp_einit (C : Addr) (f : Str) : Sp := fun vs H Q _ => ∃ (a : Addr) (v : V), vs = [.ref a, v] ∧ H a = some (exo a C none) ∧ ∀ dx, H dx = none → dx ≠ a → Q .non (upd (upd H dx (exd dx [(f, v)])) a (exo a C (some dx)))
theorem ok_BadNumber_init (T : Tx K mg) : FnOk P w K mg base (L2.CX P w) 1 T.a_BadNumber_init T.d_BadNumber_init P_BadNumber_init (sp_einit T.C_BadNumber "value") := by
  refine T.F_BadNumber_init.okX sc_BadNumber_init (fun vs H Q E h => ?_) (fun cdv A outer s H vs Q E hr h => ?_)
  · obtain ⟨a, v, rfl, _⟩ := h
    rfl
  · obtain ⟨a, v, rfl, ha, k⟩ := h
    refine ⟨_, pss_one (ps_ost (pv 0) (pv 1)), ?_⟩
    exact ⟨_, rfl, _, rfl, a, T.C_BadNumber, rfl, T.X_BadNumber, T.na_BadNumber_value, .inl ⟨ha, fun dx hd ne => k dx hd ne⟩⟩
/-- the wish for an error with one field: behind it the heap has its dict -/
def Err (H : Hp) (E : XK) (C : Addr) (f : Str) (v : V) : Prop := ∀ (d : Addr) (H' : Hp), Same H H' → H d = none → H' d = some (.xd [(f, v)]) → E (.ref C) (some d) H'
theorem Err.mono {H H1 : Hp} {E : XK} {C : Addr} {f : Str} {v : V} (s : Same H H1) (e : Err H E C f v) : Err H1 E C f v := fun d H' s' n h => e d H' (s.trans s') (s.free n) h
/-- what raise C(v) asks, by the init's promise -/
theorem mk_einit {C : Addr} {f : Str} {σ : L2.St} {H : Hp} {Q : XK} {ta : TA} {v : V} (h : ta σ H fun vs H1 => vs = [v] ∧ H1 = H) (k : Err H Q C f v) (hta : ∀ (Q Q' : List V → Hp → Prop), (∀ vs H, Q vs H → Q' vs H) → ta σ H Q → ta σ H Q') : tMkO C (sp_einit C f) [] ta σ H Q := by
  refine hta _ _ ?_ h
  rintro vs H1 ⟨rfl, rfl⟩
  refine ⟨by show 1 ≤ 1000; decide, fun a ha => ⟨a, v, rfl, upd_same, fun dx hd ne => ⟨rfl, dx, [(f, v)], upd_same, ?_, ?_, ?_⟩⟩⟩
  · rw [upd_ne ne, upd_same]
  · rw [upd_ne ne] at hd; exact hd
  · have hdx : H1 dx = none := by rw [upd_ne ne] at hd; exact hd
    refine k dx _ (fun b o e => ?_) hdx upd_same
    have nb : b ≠ dx := ne_of_none e hdx
    have na : b ≠ a := ne_of_none e ha
    rw [upd_ne nb, del_ne na, upd_ne na, upd_ne nb, upd_ne na]
    exact e
end
end AW

set_option linter.all false
set_option maxRecDepth 100000
set_option maxHeartbeats 8000000
namespace AW
open PySem PySem.Spec PyProof.Rows L2
variable [Tbs]
theorem ifT {c : Bool} {A B : Prop} (hc : c = true) (h : A) : if c = true then A else B := by
  rw [if_pos hc]
  exact h
theorem ifN {c : Bool} {A B : Prop} (hc : c = false) (h : B) : if c = true then A else B := by
  rw [hc, if_neg Bool.false_ne_true]
  exact h
/-! ### sizes of ints -/
def Bd (k : Nat) (i : Int) : Prop := i.natAbs < 2 ^ k
theorem Bd.mono {k m : Nat} {i : Int} (h : Bd k i) (l : k ≤ m) : Bd m i := Nat.lt_of_lt_of_le h (Nat.pow_le_pow_right (by decide) l)
theorem Bd.neg {k : Nat} {i : Int} (h : Bd k i) : Bd k (-i) := by unfold Bd; rw [Int.natAbs_neg]; exact h
theorem Bd.add {k : Nat} {i j : Int} (h : Bd k i) (g : Bd k j) : Bd (k + 1) (i + j) := by
  unfold Bd at *
  rw [Nat.pow_succ]
  omega
theorem Bd.sub {k : Nat} {i j : Int} (h : Bd k i) (g : Bd k j) : Bd (k + 1) (i - j) := by
  unfold Bd at *
  rw [Nat.pow_succ]
  omega
theorem Bd.mul {k m : Nat} {i j : Int} (h : Bd k i) (g : Bd m j) : Bd (k + m) (i * j) := wide_lt h g
abbrev BIG : Nat := 400000
theorem big_mul {i j : Int} (h : Bd BIG i) (g : Bd BIG j) : CMulW i j := wide_mul h g (by decide) (by decide) (by decide)
theorem Bd.add2 {k m : Nat} {i j : Int} (h : Bd k i) (g : Bd m j) : Bd (k + m + 1) (i + j) := Bd.add (h.mono (Nat.le_add_right k m)) (g.mono (Nat.le_add_left m k))
theorem Bd.sub2 {k m : Nat} {i j : Int} (h : Bd k i) (g : Bd m j) : Bd (k + m + 1) (i - j) := Bd.sub (h.mono (Nat.le_add_right k m)) (g.mono (Nat.le_add_left m k))
theorem Bd.fdiv {k : Nat} {i j : Int} (h : Bd k i) : Bd k (i.fdiv j) := by
  unfold Bd at *
  have : (i.fdiv j).natAbs ≤ i.natAbs := Int.natAbs_fdiv_le_natAbs i j
  omega
theorem Bd.lit {i : Int} (k : Nat) (h : decide (i.natAbs < 2 ^ k) = true) : Bd k i := by unfold Bd; exact of_decide_eq_true h
theorem Bd.of_lt {k : Nat} {i n : Int} (h0 : 0 ≤ i) (h1 : i < n) (h : Bd k n) : Bd k i := by unfold Bd at *; omega
theorem Bd.of_le {k : Nat} {i n : Int} (h0 : -n ≤ i) (h1 : i ≤ n) (h : Bd k n) : Bd k i := by unfold Bd at *; omega
theorem cmc {i j : Int} (h : Bd BIG i) (g : Bd BIG j) : CMulW i j := big_mul h g
section
variable {P : Program} {w : World} {K : PySem.W.Frag} {mg : Str → Option Value} {base : Heap} {E E' : XK} {e : EW} {ρ : List (Option D)} {B : Int} {k : KD} {κ : KS} {ta tb : TE} {t : TA}
def core : D → D
  | .at_ _ d => core d
  | d => d
theorem Rep.core {G : Hp} : ∀ {d : D} {v : V}, Rep K G B d v → Rep K G B (AW.core d) v
  | .at_ _ d, _, ⟨_, h⟩ => Rep.core (d := d) h
  | .non, _, h => h
  | .bl _, _, h => h
  | .int _, _, h => h
  | .str _, _, h => h
  | .tup _, _, h => h
  | .lst _, _, h => h
  | .ins _ _ _, _, h => h
  | .pen _ _, _, h => h
  | .scr _, _, h => h
  | .val _, _, h => h
  | .lam _ _, _, h => h
  | .edk, _, h => h
/-- no object of a class of one's own -/
def plainD : D → Bool
  | .ins _ _ _ => false
  | .pen _ _ => false
  | .scr _ => false
  | .val _ => false
  | .lam _ _ => false
  | .at_ _ d => plainD d
  | _ => true
theorem tyx_tup {K : PySem.W.Frag} {H : Hp} {a : Addr} {xs : List V} (h : SqT K H a xs) : TyX K H (.ref a) (.type "tuple") := by
  rcases h with (h | ⟨o, h⟩) | ⟨o, its, n, hk, hc, _⟩
  · exact .base (.tup h)
  · exact .fTuple h
  · exact .kTuple hk hc
/-- a wish for an error of one field -/
theorem Err.ofX {H G : Hp} {C : Addr} {f : Str} {d : D} {v : V} (s : Sub G H) (r : Rep K G B d v) (x : XOk K E e G H B) (h : e C (some ([f], [d])) B) : Err H E C f v := fun dx H' ss nd hd => by
  have e1 : Ext G H B G H' B := ⟨Le.refl _ _, fun a o z => ss _ _ (s _ _ z), fun a o z n _ => ⟨ss _ _ z, n⟩⟩
  exact x C _ B G H' h e1 dx [v] hd rfl ⟨v, [], rfl, r, rfl⟩
def intD : D → Bool
  | .int _ => true
  | .val v => AW.intV v
  | .at_ _ d => intD d
  | _ => false
theorem Rep.intV {G : Hp} : ∀ {d : D} {v : V}, Rep K G B d v → AW.intV v = intD d
  | .non, _, h => by rw [show _ = _ from h]; rfl
  | .bl b, _, h => by rw [show _ = _ from h]; rfl
  | .int i, _, h => by rw [show _ = _ from h]; rfl
  | .str i, _, h => by rw [show _ = _ from h]; rfl
  | .lst _, _, ⟨a, vs, e, h, hr⟩ => by rw [e]; rfl
  | .tup _, _, ⟨a, vs, e, h, hr⟩ => by rw [e]; rfl
  | .ins _ _ _, _, ⟨a, dx, vs, e, _⟩ => by rw [e]; rfl
  | .pen _ _, _, ⟨_, a, _, _, _, _, e, _⟩ => by rw [e]; rfl
  | .scr _, _, ⟨_, a, e, _⟩ => by rw [e]; rfl
  | .lam _ _, _, ⟨f, d, e, _⟩ => by rw [e]; rfl
  | .at_ _ d, _, ⟨_, h⟩ => Rep.intV (d := d) h
  | .edk, _, ⟨a, e, _⟩ => by rw [e]; rfl
  | .val _, _, h => by rw [show _ = _ from h]; rfl
def isIB : D → Bool
  | .int _ => true
  | .bl _ => true
  | .at_ _ d => isIB d
  | _ => false
def isBB : D → Bool
  | .bl _ => true
  | .at_ _ d => isBB d
  | _ => false
theorem Rep.isIB {G H : Hp} (s : Sub G H) : ∀ {d : D} {v : V}, Rep K G B d v → plainD d = true → ∃ ty, TyX K H v ty ∧ TyT ty ∧ isI ty = AW.isIB d ∧ isB ty = AW.isBB d
  | .non, _, h, _ => by rw [show _ = _ from h]; exact ⟨_, .base .non, .inl rfl, rfl, rfl⟩
  | .bl b, _, h, _ => by rw [show _ = _ from h]; exact ⟨_, .base (.bl b), .inr (.inl rfl), rfl, rfl⟩
  | .int i, _, h, _ => by rw [show _ = _ from h]; exact ⟨_, .base (.int i), .inr (.inr (.inl rfl)), rfl, rfl⟩
  | .str i, _, h, _ => by rw [show _ = _ from h]; exact ⟨_, .base (.str i), .inr (.inr (.inr (.inl rfl))), rfl, rfl⟩
  | .lst _, _, ⟨a, vs, e, h, hr⟩, _ => by rw [e]; exact ⟨_, .base (.lst (s _ _ h)), .inr (.inr (.inr (.inr (.inl rfl)))), rfl, rfl⟩
  | .tup _, _, ⟨a, vs, e, h, hr⟩, _ => by rw [e]; exact ⟨_, tyx_tup ((Le.of_sub (B := B) (B' := B) s (Int.le_refl _)).seqT h), .inr (.inr (.inr (.inr (.inr (.inl rfl))))), rfl, rfl⟩
  | .at_ _ d, _, ⟨_, h⟩, o => Rep.isIB s (d := d) h o
  | .edk, _, ⟨a, e, h⟩, _ => by rw [e]; exact ⟨_, .base (.dK (s _ _ h)), .inr (.inr (.inr (.inr (.inr (.inr rfl))))), rfl, rfl⟩
  | .ins _ _ _, _, _, o => nomatch o
  | .pen _ _, _, _, o => nomatch o
  | .scr _, _, _, o => nomatch o
  | .val _, _, _, o => nomatch o
  | .lam _ _, _, _, o => nomatch o
theorem we_isi_int (T : Tx K mg) (h : Wa K E e t ρ B fun ds B1 => ∃ d, ds = [d, .val (.ty "int")] ∧ plainD d = true ∧ k (.bl (isIB d)) B1) : We K E e (tCB (rIsi K) t) ρ B k :=
  we_cb fun σ H G Q s en x q => h σ H G Q s en x fun ds vs B1 G1 H1 ⟨d, ed, p, hk⟩ e1 r1 => q ds vs B1 G1 H1 (fun ws H2 G2 Q2 s2 r2 q2 => by
    subst ed
    obtain ⟨v, _, rfl, rv, c, _, rfl, rc, rfl⟩ := r2
    rw [show c = _ from rc]
    obtain ⟨ty, y1, y2, y3, _⟩ := rv.isIB s2 p
    exact ⟨_, _, _, _, _, rfl, .ty _, y1, kit_int y2, q2 (.bl _) _ _ _ _ (y3 ▸ hk) (Ext.refl s2) rfl⟩) e1 r1
theorem we_isi_bool (T : Tx K mg) (h : Wa K E e t ρ B fun ds B1 => ∃ d, ds = [d, .val (.ty "bool")] ∧ plainD d = true ∧ k (.bl (isBB d)) B1) : We K E e (tCB (rIsi K) t) ρ B k :=
  we_cb fun σ H G Q s en x q => h σ H G Q s en x fun ds vs B1 G1 H1 ⟨d, ed, p, hk⟩ e1 r1 => q ds vs B1 G1 H1 (fun ws H2 G2 Q2 s2 r2 q2 => by
    subst ed
    obtain ⟨v, _, rfl, rv, c, _, rfl, rc, rfl⟩ := r2
    rw [show c = _ from rc]
    obtain ⟨ty, y1, y2, _, y4⟩ := rv.isIB s2 p
    exact ⟨_, _, _, _, _, rfl, .ty _, y1, kit_bool y2, q2 (.bl _) _ _ _ _ (y4 ▸ hk) (Ext.refl s2) rfl⟩) e1 r1
/-- raise C(d), C with one field -/
theorem ws_raise1 {C : Addr} {f : Str} (h : Wa K E e t ρ B fun ds B1 => ∃ d, ds = [d] ∧ e C (some ([f], [d])) B1) : Ws K E e (fun _ σ H => tMkO C (sp_einit C f) [] t σ H fun cls d H' => E cls d H') ρ B κ := fun σ H G Dn s en x q =>
  h σ H G _ s en x fun ds vs B1 G1 H1 ⟨d, ed, he⟩ e1 r1 => by
    subst ed
    obtain ⟨v, _, rfl, rv, rfl⟩ := r1
    exact mk_einit (σ := σ) (ta := fun _ H Q => Q [v] H) ⟨rfl, rfl⟩ (Err.ofX e1.sub rv (x.ext e1) he) fun Q Q' h1 h2 => h1 _ _ h2
end
end AW

set_option linter.all false
set_option maxRecDepth 100000
set_option maxHeartbeats 4000000
namespace AW
open PySem PySem.Spec PyProof.Rows L2
/-! ### the pen -/
abbrev kC : Key := Sum.inr "cells"
abbrev kS : Key := Sum.inr "at"
abbrev kR : Key := Sum.inr "left"
theorem kCS : ¬ (kC = kS) := by decide +kernel
theorem kCR : ¬ (kC = kR) := by decide +kernel
theorem kSR : ¬ (kS = kR) := by decide +kernel
theorem kSC : ¬ (kS = kC) := by decide +kernel
theorem kRC : ¬ (kR = kC) := by decide +kernel
theorem kRS : ¬ (kR = kS) := by decide +kernel
def penD (c : Addr) (s r : Int) : List (Key × V) := [(kC, .ref c), (kS, .int s), (kR, .int r)]
theorem pen_c (c : Addr) (s r : Int) : valV (penD c s r) kC = some (.ref c) := valV_pos rfl
theorem pen_s (c : Addr) (s r : Int) : valV (penD c s r) kS = some (.int s) := (valV_neg kCS).trans (valV_pos rfl)
theorem pen_r (c : Addr) (s r : Int) : valV (penD c s r) kR = some (.int r) := (valV_neg kCR).trans ((valV_neg kSR).trans (valV_pos rfl))
theorem pen_ps (c : Addr) (s r z : Int) : putK (penD c s r) kS (.int z) = penD c z r := by
  unfold putK
  rw [if_pos (by rw [valV_any, pen_s]; rfl)]
  show [if kC = kS then (kC, V.int z) else (kC, V.ref c), if kS = kS then (kS, V.int z) else (kS, V.int s), if kR = kS then (kR, V.int z) else (kR, V.int r)] = penD c z r
  rw [if_neg kCS, if_pos rfl, if_neg kRS]
  rfl
theorem pen_pr (c : Addr) (s r z : Int) : putK (penD c s r) kR (.int z) = penD c s z := by
  unfold putK
  rw [if_pos (by rw [valV_any, pen_r]; rfl)]
  show [if kC = kR then (kC, V.int z) else (kC, V.ref c), if kS = kR then (kS, V.int z) else (kS, V.int s), if kR = kR then (kR, V.int z) else (kR, V.int r)] = penD c s z
  rw [if_neg kCR, if_neg kSR, if_pos rfl]
  rfl
theorem pen_mk (c : Addr) (s r : Int) : mergeK [] [(kC, .ref c), (kS, .int s), (kR, .int r)] = penD c s r := by
  unfold mergeK
  show putK (putK (putK [] kC (.ref c)) kS (.int s)) kR (.int r) = penD c s r
  rw [putK_new _ valV_nil]
  rw [putK_new _ (show valV ([] ++ [(kC, V.ref c)]) kS = none from valV_neg kCS)]
  rw [putK_new _ (show valV ([] ++ [(kC, V.ref c)] ++ [(kS, V.int s)]) kR = none from (valV_neg kCR).trans (valV_neg kSR))]
  rfl
/-- the pen at p: its cells, at most 63 ints; no more than B stops so far -/
structure Pen (H : Hp) (p : Addr) (B : Int) : Prop where
  at_ : ∃ (c : Addr) (ns : List Int) (s r : Int), H p = some (.dK (penD c s r)) ∧ H c = some (.lst (ns.map V.int)) ∧ ns.length ≤ 63 ∧ 0 ≤ s ∧ s ≤ B
theorem dg_c {H : Hp} {p c : Addr} {s r : Int} (e : H p = some (.dK (penD c s r))) : DGet H p (.str "cells") (some (.ref c)) := by
  have h := DGet.k (k := kC) e
  rw [pen_c] at h
  exact h
theorem dg_s {H : Hp} {p c : Addr} {s r : Int} (e : H p = some (.dK (penD c s r))) : DGet H p (.str "at") (some (.int s)) := by
  have h := DGet.k (k := kS) e
  rw [pen_s] at h
  exact h
theorem dg_r {H : Hp} {p c : Addr} {s r : Int} (e : H p = some (.dK (penD c s r))) : DGet H p (.str "left") (some (.int r)) := by
  have h := DGet.k (k := kR) e
  rw [pen_r] at h
  exact h
theorem dp_s {H : Hp} {p c : Addr} {s r z : Int} (e : H p = some (.dK (penD c s r))) : DPut H p (.str "at") (.int z) (upd H p (.dK (penD c z r))) := by
  have h := DPut.k (k := kS) (v := .int z) e (by show 3 < sizeLine; decide)
  rw [pen_ps] at h
  exact h
theorem dp_r {H : Hp} {p c : Addr} {s r z : Int} (e : H p = some (.dK (penD c s r))) : DPut H p (.str "left") (.int z) (upd H p (.dK (penD c s z))) := by
  have h := DPut.k (k := kR) (v := .int z) e (by show 3 < sizeLine; decide)
  rw [pen_pr] at h
  exact h
/-- all but the pen stays -/
structure But (p : Addr) (H H' : Hp) : Prop where
  st : ∀ b o, b ≠ p → H b = some o → H' b = some o
  cl : ∀ c s r, H p = some (.dK (penD c s r)) → ∃ s' r', H' p = some (.dK (penD c s' r'))
theorem But.refl {p : Addr} (H : Hp) : But p H H := ⟨fun _ _ _ h => h, fun _ s r h => ⟨s, r, h⟩⟩
theorem But.trans {p : Addr} {H H1 H2 : Hp} (a : But p H H1) (b : But p H1 H2) : But p H H2 :=
  ⟨fun c o n h => b.st c o n (a.st c o n h), fun c s r h => by
    obtain ⟨s1, r1, h1⟩ := a.cl c s r h
    exact b.cl c s1 r1 h1⟩
theorem But.of {p : Addr} {H H' : Hp} (s : Same H H') : But p H H' := ⟨fun b o _ h => s b o h, fun c z r h => ⟨z, r, s _ _ h⟩⟩
theorem penD_inj {c c' : Addr} {s r s' r' : Int} (h : penD c s r = penD c' s' r') : c = c' := by
  injection h with h1 _
  injection h1 with _ h2
  injection h2
theorem But.upd {p c : Addr} {z r z' r' : Int} {H H' : Hp} (s : But p H H') (e : H' p = some (.dK (penD c z r))) : But p H (upd H' p (.dK (penD c z' r'))) :=
  ⟨fun b u n h => by rw [upd_ne n]; exact s.st b u n h, fun c2 s2 r2 h => by
    obtain ⟨s3, r3, h3⟩ := s.cl c2 s2 r2 h
    rw [e] at h3
    injection h3 with h3
    injection h3 with h3
    rw [penD_inj h3] at *
    exact ⟨z', r', upd_same⟩⟩
theorem But.new {p q : Addr} {H H' : Hp} {o : HO} (s : But p H H') (h : H' q = none) : But p H (L2.upd H' q o) :=
  ⟨fun b u n e => by
    have e' := s.st b u n e
    rw [upd_ne (ne_of_none e' h)]
    exact e', fun c z r e => by
    obtain ⟨z1, r1, e1⟩ := s.cl c z r e
    exact ⟨z1, r1, by rw [upd_ne (ne_of_none e1 h)]; exact e1⟩⟩
theorem Pen.mono {H H' : Hp} {p : Addr} {B B' : Int} (h : Pen H p B) (l : B ≤ B') (s : Same H H') : Pen H' p B' := by
  obtain ⟨c, ns, z, r, e1, e2, h1, h2, h3⟩ := h.at_
  exact ⟨⟨c, ns, z, r, s _ _ e1, s _ _ e2, h1, h2, Int.le_trans h3 l⟩⟩
theorem Pen.le {H : Hp} {p : Addr} {B B' : Int} (h : Pen H p B) (l : B ≤ B') : Pen H p B' := h.mono l (Same.refl H)
theorem fmod_in {a b : Int} (h : 0 < b) : 0 ≤ a.fmod b ∧ a.fmod b < b := ⟨Int.fmod_nonneg_of_pos a h, Int.fmod_lt_of_pos a h⟩
section
variable {P : Program} {w : World} {K : PySem.W.Frag} {mg : Str → Option Value} {base : Heap}
def sp_l_pen (T : Tx K mg) : Sp := fun vs H Q E => ∃ (a : Addr) (ns : List Int), vs = [.ref a] ∧ SqL K H a (ns.map V.int) ∧ ns.length ≤ 63 ∧ ∀ p c H', Same H H' → H p = none → H c = none → c ≠ p → H' p = some (.dK (penD c 0 0)) → H' c = some (.lst (ns.map V.int)) → Q (.ref p) H'
theorem ok_l_pen (T : Tx K mg) : FnOk P w K mg base (L2.CX P w) 1 T.a_l_pen T.d_l_pen P_l_pen (sp_l_pen T) := by
  refine T.F_l_pen.okX sc_l_pen (fun vs H Q E h => ?_) (fun cdv A outer s H vs Q E hr h => ?_)
  · obtain ⟨a, ns, rfl, _⟩ := h
    rfl
  · obtain ⟨a, ns, rfl, hS, hlen, k⟩ := h
    refine ⟨_, pss_one (ps_ret (pe_disp (pps_cons pe_str (pe_callTy call_list_of rfl T.n_list (by decide +kernel) (pa_cons (pe_slice sl_list (pv 0) po_none (po_some pe_int)) pa_nil))
      (pps_cons pe_str pe_int (pps_cons pe_str pe_int pps_nil))) (by rfl) (by rfl) (fun z => by cases z) (by decide))), ?_⟩
    refine fun p np => ?_
    have s1 : Same H (upd H p (.dK [])) := Same.laid np
    refine ⟨_, rfl, _, rfl, a, _, rfl, s1.seq hS, fun q nq => ⟨q, _, rfl, .inl (.of upd_same), fun l nl => ?_⟩⟩
    have npq : p ≠ q := ne_of_none upd_same nq
    have nql : q ≠ l := ne_of_none upd_same nl
    have npl : p ≠ l := ne_of_none (by rw [upd_ne npq]; exact upd_same) nl
    refine ⟨by rw [upd_ne npl, upd_ne npq, upd_same], [(kC, .ref l), (kS, .int 0), (kR, .int 0)], rfl, (by show 3 ≤ 15; decide), ?_⟩
    have hcut : cutV (ns.map V.int) none (some 63) = ns.map V.int := by
      unfold cutV
      have e1 : HT.sIx (ns.map V.int).length 0 none = 0 := rfl
      have e2 : (ns.map V.int).length ≤ 63 := by rw [List.length_map]; exact hlen
      rw [e1]
      show ((ns.map V.int).drop 0).take _ = _
      rw [List.drop_zero, List.take_of_length_le]
      have e3 : HT.sIx (ns.map V.int).length (ns.map V.int).length (some 63) = (ns.map V.int).length := by
        simp [HT.sIx]
        omega
      rw [e3]
      omega
    have sF : Same H (upd (upd (upd (upd H p (.dK [])) q (.lst (cutV (ns.map V.int) none (some 63)))) l (.lst (cutV (ns.map V.int) none (some 63)))) p (.dK (mergeK [] [(kC, .ref l), (kS, .int 0), (kR, .int 0)]))) := fun b o e => by
      have nb : b ≠ p := ne_of_none e np
      have e1 : upd H p (.dK []) b = some o := by rw [upd_ne nb]; exact e
      have nq' : b ≠ q := ne_of_none e1 nq
      have e2 : upd (upd H p (.dK [])) q (.lst (cutV (ns.map V.int) none (some 63))) b = some o := by rw [upd_ne nq']; exact e1
      rw [upd_ne nb, upd_ne (ne_of_none e2 nl)]
      exact e2
    have nl0 : H l = none := by
      cases z : H l with
      | none => rfl
      | some u =>
        have z1 := s1 _ _ z
        have nql' : l ≠ q := fun w => by rw [w, nq] at z1; cases z1
        rw [upd_ne nql', z1] at nl
        cases nl
    refine k p l _ sF np nl0 npl.symm ?_ ?_
    · rw [pen_mk]; exact upd_same
    · rw [upd_ne npl.symm, upd_same, hcut]
end
end AW

set_option linter.all false
set_option maxRecDepth 100000
set_option maxHeartbeats 8000000
namespace AW
open PySem PySem.Spec PyProof.Rows L2
section
variable {P : Program} {w : World} {K : PySem.W.Frag} {mg : Str → Option Value} {base : Heap}
theorem dp_ints {K : PySem.W.Frag} {H : Hp} : ∀ ms : List Int, DpAll K H (ms.map V.int) (ms.map PyData.int)
  | [] => .nil
  | m :: r => .cons (.int m) (dp_ints r)
theorem sh_ints (ms : List Int) : SeqAt.shaped (.list (ms.map PyData.int)) = true := PySem.W.ke_shaped_ints ms
/-- a drawn number, the pen a stop further at most -/
def Drawn (H : Hp) (Q : VK) (p : Addr) (B : Int) (ok : Int → Prop) : Prop := ∀ (d : Int) (H' : Hp), ok d → But p H H' → Pen H' p B → Q (.int d) H'
def sp_l_draw (T : Tx K mg) : Sp := fun vs H Q E => ∃ (p : Addr) (n B : Int), vs = [.ref p, .int n] ∧ 0 < n ∧ n < 1073741824 ∧ Pen H p B ∧ B ≤ 1000000 ∧ Drawn H Q p (B + 1) fun d => 0 ≤ d ∧ d < n
theorem ok_l_draw (T : Tx K mg) : FnOk P w K mg base (L2.CX P w) 1 T.a_l_draw T.d_l_draw P_l_draw (sp_l_draw T) := by
  refine T.F_l_draw.okX sc_l_draw (fun vs H Q E h => ?_) (fun cdv A outer s H vs Q E hr h => ?_)
  · obtain ⟨p, n, B, rfl, _⟩ := h
    rfl
  · obtain ⟨p, n, B, rfl, h0, h1, hp, hB, k⟩ := h
    have hu := hu_of hr
    obtain ⟨c, ns, st, rs, e1, e2, hl, hs0, hsB⟩ := hp.at_
    have npc : p ≠ c := ne_of e1 e2 (by intro z; cases z)
    refine ⟨_, (pss_cons (ps_if (pt_cmpR op_ge (pe_dget hu (pv 0) pe_str (fun _ _ => rfl)) (pv 1) (nomark _))
 (pss_cons (ps_set (i := 2) sc_l_draw.nd rfl (.inl rfl) (pe_op op_modN (pe_callTy call_int1 (by rfl) T.n_int (by decide +kernel) (pa_cons (pe_dget hu (pv 0) pe_str (fun _ _ => rfl)) pa_nil)) (pv 1)))
 (pss_cons (ps_dput hu (pv 0) pe_str (pe_op op_fdivN (pe_dget hu (pv 0) pe_str (fun _ _ => rfl)) (pv 1)) rfl)
 (pss_one (ps_ret (pv 2)))))
 pss_nil)
 (pss_cons (ps_set (i := 3) sc_l_draw.nd rfl (.inl rfl) (pe_dget hu (pv 0) pe_str (fun _ _ => rfl)))
 (pss_cons (ps_dput hu (pv 0) pe_str (pe_op op_add (pv 3) pe_int) rfl)
 (pss_cons (ps_set (i := 4) sc_l_draw.nd rfl (.inl rfl) (pe_op op_add (pe_op op_mul pe_int (pv 3)) pe_int))
 (pss_cons (ps_if (pt_cmpR (op_neD hr.units) (pe_dget hu (pv 0) pe_str (fun _ _ => rfl)) (pe_lst pa_nil) (nomark _))
 (pss_one (ps_set (i := 4) sc_l_draw.nd rfl (.inl rfl) (pe_ix ix_list (pe_dget hu (pv 0) pe_str (fun _ _ => rfl)) (pe_op op_modN (pe_callTy call_int1 (by rfl) T.n_int (by decide +kernel) (pa_cons (pv 3) pa_nil)) (pe_callB call_len_seq (by rfl) T.n_len (by decide +kernel) (pa_cons (pe_dget hu (pv 0) pe_str (fun _ _ => rfl)) pa_nil))) (fun _ _ => rfl))))
 pss_nil)
 (pss_cons (ps_if (PW.pt (pw_and (pt_cmpR op_lt (pv 3) (pe_callB call_len_seq (by rfl) T.n_len (by decide +kernel) (pa_cons (pe_dget hu (pv 0) pe_str (fun _ _ => rfl)) pa_nil)) (nomark _)) (pw_and1 (pt_cmpR op_ge (pv 4) (pe_op op_pow pe_int pe_int) (nomark _)))))
 (pss_cons (ps_dput hu (pv 0) pe_str (pe_op op_fdivN (pe_op op_sub (pv 4) (pe_op op_pow pe_int pe_int)) (pv 1)) rfl)
 (pss_one (ps_ret (pe_op op_modN (pe_callTy call_int1 (by rfl) T.n_int (by decide +kernel) (pa_cons (pe_op op_sub (pv 4) (pe_op op_pow pe_int pe_int)) pa_nil)) (pv 1)))))
 pss_nil)
 (pss_cons (ps_set (i := 5) sc_l_draw.nd rfl (.inl rfl) (pe_op op_add (pe_op op_mul (pe_op op_modN (pe_callTy call_int1 (by rfl) T.n_int (by decide +kernel) (pa_cons (pv 4) pa_nil)) pe_int) pe_int) (pe_op op_mul (pe_op op_mul pe_int (pv 3)) (pv 3))))
 (pss_cons (ps_set (i := 5) sc_l_draw.nd rfl (.inl rfl) (pe_op op_modN (pe_callTy call_int1 (by rfl) T.n_int (by decide +kernel) (pa_cons (pe_op op_add (pe_op op_add (pv 5) (pe_op op_mul pe_int (pv 3))) pe_int) pa_nil)) pe_int))
 (pss_cons (ps_set (i := 5) sc_l_draw.nd rfl (.inl rfl) (pe_op op_modN (pe_callTy call_int1 (by rfl) T.n_int (by decide +kernel) (pa_cons (pe_op op_add (pe_op op_mul (pv 5) (pe_op op_add (pv 5) pe_int)) (pe_op op_mul pe_int (pv 3))) pa_nil)) pe_int))
 (pss_one (ps_ret (pe_op op_modN (pe_callTy call_int1 (by rfl) T.n_int (by decide +kernel) (pa_cons (pe_op op_fdivN (pe_op op_modN (pe_callTy call_int1 (by rfl) T.n_int (by decide +kernel) (pa_cons (pe_op op_add (pe_op op_mul (pv 5) (pv 5)) (pe_op op_mul pe_int (pv 5))) pa_nil)) pe_int) pe_int) pa_nil)) (pv 1))))))))))))), ?_⟩
    have dn : CDivN rs n := ⟨by omega, by omega⟩
    refine ⟨_, rfl, p, _, rfl, dg_r e1, _, rfl, _, _, rfl, rfl, _, rfl, ?_⟩
    refine ite2 (fun _ => ?_) (fun _ => ?_)
    · refine ⟨_, rfl, p, _, rfl, dg_r e1, .inl ⟨_, rfl, _, rfl, _, _, rfl, rfl, (by omega), ?_⟩⟩
      refine ⟨_, rfl, p, _, rfl, dg_r e1, _, rfl, _, _, rfl, rfl, dn, _, rfl, p, _, rfl, dp_r e1, ?_⟩
      refine ⟨_, rfl, k _ _ (fmod_in h0) (But.upd (But.refl H) e1) ⟨c, ns, st, _, upd_same, by rw [upd_ne npc.symm]; exact e2, hl, hs0, by omega⟩⟩
    · refine ⟨_, rfl, p, _, rfl, dg_s e1, ?_⟩
      refine ⟨_, rfl, _, _, rfl, rfl, _, rfl, p, _, rfl, dp_s e1, ?_⟩
      refine ⟨_, rfl, _, _, rfl, rfl, .inl ⟨by decide, by decide⟩, _, _, rfl, rfl, ?_⟩
      have hp1 : upd H p (.dK (penD c (st + 1) rs)) p = some (.dK (penD c (st + 1) rs)) := upd_same
      have hc1 : upd H p (.dK (penD c (st + 1) rs)) c = some (.lst (ns.map V.int)) := by rw [upd_ne npc.symm]; exact e2
      have b1 : But p H (upd H p (.dK (penD c (st + 1) rs))) := But.upd (But.refl H) e1
      generalize upd H p (.dK (penD c (st + 1) rs)) = H1 at hp1 hc1 b1 ⊢
      refine ⟨_, rfl, p, _, rfl, dg_c hp1, (by show 0 ≤ sizeLine; decide), fun e0 ne0 => ?_⟩
      have se0 : Same H1 (upd H1 e0 (.lst [])) := Same.laid ne0
      have hp2 := se0 _ _ hp1
      have hc2 := se0 _ _ hc1
      have b2 : But p H (upd H1 e0 (.lst [])) := b1.new ne0
      have he2 : upd H1 e0 (.lst []) e0 = some (.lst []) := upd_same
      generalize upd H1 e0 (.lst []) = H2 at hp2 hc2 b2 he2 ⊢
      refine ⟨.list (ns.map PyData.int), .list [], .lst (SqL.of hc2) (dp_ints ns), .lst (SqL.of he2) .nil, sh_ints ns, rfl, _, rfl, ?_⟩
      have dz : ∀ z : Int, CDivN z n := fun z => ⟨by omega, by omega⟩
      have n0 : n ≠ 0 := by omega
      have cp : CPow 10 18 := ⟨by decide, by decide, by decide⟩
      have nzA : (2147482417 : Int) ≠ 0 := by decide
      have nzB : (2147482481 : Int) ≠ 0 := by decide
      have nzC : (2147482507 : Int) ≠ 0 := by decide
      have nzD : (2147482577 : Int) ≠ 0 := by decide
      have bB : ∀ x : Int, -(2 ^ 64) < x.fmod 2147482481 ∧ x.fmod 2147482481 < 2 ^ 64 := fun x => by have := fmod_in (a := x) (b := 2147482481) (by decide); omega
      have bC : ∀ x : Int, -(2 ^ 64) < x.fmod 2147482507 ∧ x.fmod 2147482507 < 2 ^ 64 := fun x => by have := fmod_in (a := x) (b := 2147482507) (by decide); omega
      have kk : ∀ (z : Int) H', But p H H' → Pen H' p (B + 1) → Q (.int (z.fmod n)) H' := fun z H' b q => k _ H' (fmod_in h0) b q
      have P2 : ∀ H', (∃ r, H' p = some (.dK (penD c (st + 1) r))) → H' c = some (.lst (ns.map V.int)) → Pen H' p (B + 1) := fun H' ⟨r, e⟩ e' => ⟨c, ns, st + 1, r, e, e', hl, by omega, by omega⟩
      refine ite2 (fun hne => ?_) (fun _ => ?_)
      focus
        have hpos : 0 < ns.length := by
          cases ns with
          | nil => exact absurd hne (by decide)
          | cons a r => exact Nat.succ_pos _
        have hm := fmod_in (a := st) (b := (ns.length : Int)) (by omega)
        have hi : ∃ z, atI (ns.map V.int) (st.fmod ((ns.map V.int).length : Int)) = some (.int z) := by
          rw [List.length_map]
          obtain ⟨j, hj⟩ := Int.eq_ofNat_of_zero_le hm.1
          have hj2 : j < ns.length := by omega
          refine ⟨ns[j], ?_⟩
          rw [hj, atI_nat (by rw [List.getElem?_map, List.getElem?_eq_getElem hj2]; rfl)]
        obtain ⟨z, hz⟩ := hi
        refine ⟨_, rfl, p, _, rfl, dg_c hp2, _, rfl, .inl ⟨_, rfl, _, rfl, p, _, rfl, dg_c hp2, c, _, rfl, .inl (SqL.of hc2), _, _, rfl, rfl, (by rw [List.length_map]; omega), c, _, _, _, rfl, rfl, SqL.of hc2, hz, ?_⟩⟩
        clear hz hm hne hpos
      all_goals
        refine ⟨_, rfl, _, rfl, p, _, rfl, dg_c hp2, c, _, rfl, .inl (SqL.of hc2), _, _, rfl, rfl, _, rfl, ?_⟩
        refine ite2 (fun _ => ?_) (fun _ => ?_)
        focus
          refine ⟨_, rfl, _, _, rfl, rfl, cp, _, _, rfl, rfl, _, rfl, ?_⟩
          refine ite2 (fun _ => ?_) (fun _ => ?_)
          focus
            refine ⟨_, rfl, _, _, rfl, rfl, cp, _, _, rfl, rfl, _, rfl, _, _, rfl, rfl, dz _, _, rfl, p, _, rfl, dp_r hp2, ?_⟩
            refine ⟨_, rfl, _, _, rfl, rfl, cp, _, _, rfl, rfl, .inl ⟨_, rfl, _, rfl, _, _, rfl, rfl, n0, ?_⟩⟩
            exact kk _ _ (b2.upd hp2) (P2 _ ⟨_, upd_same⟩ (by rw [upd_ne npc.symm]; exact hc2))
        rotate_left
        focus
          refine iteF ?_
        all_goals
          refine ⟨_, rfl, .inl ⟨_, rfl, _, _, rfl, rfl, nzA, _, _, rfl, rfl, .inr ⟨by decide, by decide⟩, _, rfl, _, _, rfl, rfl, .inl ⟨by decide, by decide⟩, _, rfl, _, _, rfl, rfl, .inr ⟨by omega, by omega⟩, _, _, rfl, rfl, ?_⟩⟩
          refine ⟨_, rfl, _, rfl, _, _, rfl, rfl, .inl ⟨by decide, by decide⟩, _, _, rfl, rfl, _, _, rfl, rfl, .inl ⟨_, rfl, _, _, rfl, rfl, nzB, ?_⟩⟩
          refine ⟨_, rfl, _, rfl, _, _, rfl, rfl, _, _, rfl, rfl, .inl (bB _), _, rfl, _, _, rfl, rfl, .inl ⟨by decide, by decide⟩, _, _, rfl, rfl, .inl ⟨_, rfl, _, _, rfl, rfl, nzC, ?_⟩⟩
          refine ⟨_, rfl, _, rfl, _, _, rfl, rfl, .inl (bC _), _, rfl, _, _, rfl, rfl, .inl ⟨by decide, by decide⟩, _, _, rfl, rfl, .inl ⟨_, rfl, _, _, rfl, rfl, nzD, ?_⟩⟩
          refine ⟨_, _, rfl, rfl, ⟨by decide, by decide⟩, .inl ⟨_, rfl, _, rfl, _, _, rfl, rfl, n0, ?_⟩⟩
          exact kk _ _ b2 (P2 _ ⟨_, hp2⟩ hc2)
end
end AW

set_option linter.all false
set_option maxRecDepth 100000
set_option maxHeartbeats 8000000
namespace AW
open PySem PySem.Spec PyProof.Rows L2
variable [Tbs]
theorem ne_of_dec {a b : Int} (h : (!decide (a = b)) = true) : ¬ a = b := by simpa using h
theorem eq_of_dec {a b : Int} (h : (!decide (a = b)) = false) : a = b := by simpa using h
theorem dvg {i j : Int} (h : j ≠ 0) (b : Bd 9000 j) : CDivG i j := by
  refine ⟨h, ?_⟩
  unfold Bd at b
  exact PySem.Flt.log2_lt_of (by decide) b
theorem intD_eq : ∀ d : D, plainD d = true → intD d = (isIB d && !isBB d)
  | .non, _ => rfl
  | .bl _, _ => rfl
  | .int _, _ => rfl
  | .str _, _ => rfl
  | .tup _, _ => rfl
  | .lst _, _ => rfl
  | .edk, _ => rfl
  | .at_ _ d, h => intD_eq d h
  | .ins _ _ _, h => nomatch h
  | .pen _ _, h => nomatch h
  | .scr _, h => nomatch h
  | .val _, h => nomatch h
  | .lam _ _, h => nomatch h
section
variable {P : Program} {w : World} {K : PySem.W.Frag} {mg : Str → Option Value} {base : Heap}
def pr_is_integer (T : Tx K mg) : Pr := fun ds B k e => ∃ d, ds = [d] ∧ plainD d = true ∧ k (.bl (intD d)) B
theorem okD_is_integer (T : Tx K mg) : FnOk P w K mg base (L2.CX P w) 1 T.a_is_integer T.d_is_integer P_is_integer (spD K (pr_is_integer T)) := by
  refine T.F_is_integer.okX sc_is_integer (spD_len fun ds B k e h => by obtain ⟨d, rfl, hp, hk⟩ := h; rfl) (fun cdv A outer s H vs Q E hr h => ?_)
  obtain ⟨G, ds, B, k, e, hs, hR, ⟨d, rfl, hp, hk⟩, hK, hX⟩ := h
  refine ⟨_, (pss_one (ps_ret (pe_and (pe_callB call_isi (by rfl) T.n_isinstance (by decide +kernel) (pa_cons (pv 0) (pa_cons (pe_bltn (v := .ty "int") (by rfl) T.n_int (by decide +kernel) rfl) pa_nil))) (pe_one (pe_not (pe_callB call_isi (by rfl) T.n_isinstance (by decide +kernel) (pa_cons (pv 0) (pa_cons (pe_bltn (v := .ty "bool") (by rfl) T.n_bool (by decide +kernel) rfl) pa_nil)))))))), run_body (ρ := [some d]) hs hR hK hX rfl ?_⟩
  rw [intD_eq d hp] at hk
  refine ws_ret (we_and (we_isi_int T (wa_cons (we_var rfl (wa_cons (we_val (wa_nil ⟨_, rfl, hp, _, rfl, fun h => ?_, fun h => ?_⟩)))))))
  · rw [h] at hk
    exact we_not (we_isi_bool T (wa_cons (we_var rfl (wa_cons (we_val (wa_nil ⟨_, rfl, hp, _, rfl, hk⟩))))))
  · rw [h] at hk
    exact hk
def badF (m : Int) (d : D) : Prop := intD d = false ∨ ∃ i : Int, d = .int i ∧ i < m
abbrev badW (d : D) : Prop := badF 0 d
def pr_check_from (T : Tx K mg) : Pr := fun ds B k e => ∃ d m, ds = [d, .int m] ∧ ((∃ i : Int, d = .int i ∧ m ≤ i ∧ k .non B) ∨ (plainD d = true ∧ badF m d ∧ e T.C_BadNumber (some ((["value"] : List Str), [d])) B))
theorem okD_check_from (T : Tx K mg) : FnOk P w K mg base (L2.CX P w) 3 T.a_check_from T.d_check_from P_check_from (spD K (pr_check_from T)) := by
  refine T.F_check_from.okX sc_check_from (spD_len fun ds B k e h => by obtain ⟨d, m, rfl, hk⟩ := h; rfl) (fun cdv A outer s H vs Q E hr h => ?_)
  have G_BadNumber_init : FnOk P w K mg base (L2.CX P w) 1 _ _ _ _ := ok_BadNumber_init T
  have G_is_integer : FnOk P w K mg base (L2.CX P w) 1 _ _ _ _ := okD_is_integer T
  obtain ⟨G, ds, B, k, e, hs, hR, ⟨d, m, rfl, hk⟩, hK, hX⟩ := h
  refine ⟨_, (pss_one (ps_if (PW.pt (pw_or (pt_not (pt_val (pe_call G_is_integer (hr.mono (by decide)) (by rfl) T.g_is_integer T.F_is_integer.kp T.b_is_integer .nil (passE (E := E)) (pa_cons (pv 0) pa_nil)))) (pw_or1 (pt_cmpR op_lt (pv 0) (pv 1) (nomark _)))))
 (pss_one (ps_raise rfl (takes_of rfl rfl rfl rfl) (pmk_oex T.X_BadNumber T.ei_BadNumber T.et_BadNumber G_BadNumber_init (hr.mono (by decide)) T.b_BadNumber_init .nil passL rfl T.g_C_BadNumber (by exact (pa_cons (pv 0) pa_nil)))))
 pss_nil)), run_body (ρ := [some d, some (.int m)]) hs hR hK hX rfl ?_⟩
  rcases hk with ⟨i, rfl, h0, hk⟩ | ⟨hp, hb, he⟩
  · refine ws_if <| wt_or <| wt_not <| wt_val <| we_call <| wa_cons <| we_var rfl <| wa_nil ⟨_, rfl, rfl, _, rfl, fun h => (nomatch h), fun _ => wt_test <| we_op <| we_var rfl <| we_var rfl <| ro_b0 ⟨_, rfl, fun h => ?_, fun h => ws_next hk⟩⟩
    exact absurd (of_decide_eq_true h) (by omega)
  · rcases hb with hb | ⟨i, rfl, h0⟩
    · refine ws_if <| wt_or <| wt_not <| wt_val <| we_call <| wa_cons <| we_var rfl <| wa_nil ⟨_, rfl, hp, _, rfl, fun _ => ⟨fun _ => ws_raise1 (wa_cons (we_var rfl (wa_nil ⟨_, rfl, he⟩))), fun h => (nomatch h)⟩, fun h => ?_⟩
      rw [hb] at h
      cases h
    · refine ws_if <| wt_or <| wt_not <| wt_val <| we_call <| wa_cons <| we_var rfl <| wa_nil ⟨_, rfl, rfl, _, rfl, fun h => (nomatch h), fun _ => wt_test <| we_op <| we_var rfl <| we_var rfl <| ro_b0 ⟨_, rfl, fun _ => ws_raise1 (wa_cons (we_var rfl (wa_nil ⟨_, rfl, he⟩))), fun h => ?_⟩⟩
      exact absurd h0 (of_decide_eq_false h)
def pr_check_whole (T : Tx K mg) : Pr := fun ds B k e => ∃ d, ds = [d] ∧ ((∃ i : Int, d = .int i ∧ 0 ≤ i ∧ k .non B) ∨ (plainD d = true ∧ badW d ∧ e T.C_BadNumber (some ((["value"] : List Str), [d])) B))
theorem okD_check_whole (T : Tx K mg) : FnOk P w K mg base (L2.CX P w) 4 T.a_check_whole T.d_check_whole P_check_whole (spD K (pr_check_whole T)) := by
  refine T.F_check_whole.okX sc_check_whole (spD_len fun ds B k e h => by obtain ⟨d, rfl, hk⟩ := h; rfl) (fun cdv A outer s H vs Q E hr h => ?_)
  have G_check_from : FnOk P w K mg base (L2.CX P w) 3 _ _ _ _ := okD_check_from T
  obtain ⟨G, ds, B, k, e, hs, hR, ⟨d, rfl, hk⟩, hK, hX⟩ := h
  refine ⟨_, (pss_one (ps_expr (pe_call G_check_from (hr.mono (by decide)) (by rfl) T.g_check_from T.F_check_from.kp T.b_check_from .nil (passE (E := E)) (pa_cons (pv 0) (pa_cons pe_int pa_nil))))), run_body (ρ := [some d]) hs hR hK hX rfl ?_⟩
  exact ws_drop <| we_callE <| wa_cons <| we_var rfl <| wa_cons <| we_int <| wa_nil ⟨d, 0, rfl, hk⟩
end
end AW

set_option linter.all false
set_option maxRecDepth 100000
set_option maxHeartbeats 8000000
namespace AW
open PySem PySem.Spec PyProof.Rows L2
variable [Tbs]
section
variable {P : Program} {w : World} {K : PySem.W.Frag} {mg : Str → Option Value} {base : Heap}
abbrev penF : D := .pen "at" "left"
def pr_l_pen (T : Tx K mg) : Pr := fun ds B k e => ∃ ns : List Int, ds = [.scr ns] ∧ ns.length ≤ 63 ∧ 0 ≤ B ∧ k penF B
theorem penD_E (c : Addr) (s r : Int) : penD c s r = penE "at" "left" c s r := rfl
theorem okD_l_pen (T : Tx K mg) : FnOk P w K mg base (L2.CX P w) 1 T.a_l_pen T.d_l_pen P_l_pen (spD K (pr_l_pen T)) :=
  (ok_l_pen T).imp fun vs H Q E ⟨G, ds, B, k, e, hs, hr, ⟨ns, ed, hl, hB, h⟩, hk, hx⟩ => by
    subst ed
    obtain ⟨v, _, rfl, ⟨hT, a, rfl, hS⟩, rfl⟩ := hr
    refine ⟨a, ns, rfl, (Le.of_sub (B := B) (B' := B) hs (Int.le_refl _)).seqL hS, hl, fun p c H' ss np nc ne hp hc => ?_⟩
    have none_of : ∀ q, H q = none → G q = none := fun q z => by
      cases w : G q with
      | none => rfl
      | some u => rw [hs _ _ w] at z; cases z
    have le : Le G B (upd (upd G p (.dK (penE "at" "left" c 0 0))) c (.lst (ns.map V.int))) B := Le.of_sub (fun b o z => by rw [upd_ne (ne_of_none z (none_of c nc)), upd_ne (ne_of_none z (none_of p np))]; exact z) (Int.le_refl _)
    refine hk penF _ B (upd (upd G p (.dK (penE "at" "left" c 0 0))) c (.lst (ns.map V.int))) H' h ⟨le, fun b o z => ?_, fun b o z n _ => ?_⟩ ⟨le.tb hT, p, c, ns, 0, 0, rfl, by rw [upd_ne ne.symm, upd_same], upd_same, hl, Int.le_refl _, hB⟩
    · by_cases h1 : b = c
      · subst h1; rw [upd_same] at z; cases z; exact hc
      · rw [upd_ne h1] at z
        by_cases h2 : b = p
        · subst h2; rw [upd_same] at z; cases z; exact hp
        · rw [upd_ne h2] at z; exact ss _ _ (hs _ _ z)
    · exact ⟨ss _ _ z, by rw [upd_ne (ne_of_none z nc), upd_ne (ne_of_none z np)]; exact n⟩
def pr_l_draw (T : Tx K mg) : Pr := fun ds B k e => ∃ n : Int, ds = [penF, .int n] ∧ 0 < n ∧ n < 1073741824 ∧ B ≤ 1000000 ∧ ∀ d, 0 ≤ d → d < n → k (.int d) (B + 1)
theorem okD_l_draw (T : Tx K mg) : FnOk P w K mg base (L2.CX P w) 1 T.a_l_draw T.d_l_draw P_l_draw (spD K (pr_l_draw T)) :=
  (ok_l_draw T).imp fun vs H Q E ⟨G, ds, B, k, e, hs, hr, ⟨n, ed, n0, n1, hB, h⟩, hk, hx⟩ => by
    subst ed
    obtain ⟨v, _, rfl, ⟨_, p, c, ns, s, r, rfl, gp, gc, hl, s0, s1⟩, u, _, rfl, ru, rfl⟩ := hr
    rw [show u = _ from ru]
    refine ⟨p, n, B, rfl, n0, n1, ⟨c, ns, s, r, hs _ _ gp, hs _ _ gc, hl, s0, s1⟩, hB, fun d H' hd bt hp => ?_⟩
    obtain ⟨c1, ns1, s', r', e1, e2, l1, b0, b1⟩ := hp.at_
    obtain ⟨s2, r2, e3⟩ := bt.cl c s r (hs _ _ gp)
    rw [e1] at e3
    have ec : c1 = c := by
      injection e3 with e3
      injection e3 with e3
      exact penD_inj e3
    subst ec
    have npc : c1 ≠ p := ne_of gc gp (by intro z; cases z)
    have nop : ∀ b o, G b = some o → ¬ IsPen o → b ≠ p := fun b o z n q => by
      subst q
      rw [gp] at z
      cases z
      exact n (.inl ⟨_, _, _, _, _, rfl⟩)
    refine hk (.int d) _ (B + 1) (upd G p (.dK (penD c1 s' r'))) H' (h d hd.1 hd.2) ⟨⟨by omega, fun b o z n => by rw [upd_ne (nop b o z n)]; exact z, fun b k l q x y z => ?_, fun hT z hz => ?_⟩, fun b o z => ?_, fun b o z n _ => ?_⟩ rfl
    · by_cases hb : b = p
      · subst hb
        rw [gp] at z
        injection z with z
        injection z with z
        unfold penE at z
        injection z with z1 z2
        injection z2 with z2 z3
        injection z3 with z3 z4
        injection z1 with _ z1
        injection z1 with z1
        injection z2 with z2 z5
        injection z2 with z2
        injection z3 with z3 z6
        injection z3 with z3
        subst z1 z2 z3
        exact ⟨s', r', upd_same, fun _ _ => ⟨b0, b1⟩⟩
      · exact ⟨x, y, by rw [upd_ne hb]; exact z, fun a b => ⟨a, by omega⟩⟩
    · obtain ⟨ps, h1, h2, h3⟩ := hT z hz
      refine ⟨ps, by rw [upd_ne (ne_of h1 gp (by intro z; cases z))]; exact h1, h2, fun pos cv hc => ?_⟩
      obtain ⟨c2, k1, k2⟩ := h3 pos cv hc
      exact ⟨c2, k1, by rw [upd_ne (ne_of k2 gp (by intro z; cases z))]; exact k2⟩
    · by_cases hb : b = p
      · subst hb; rw [upd_same] at z; cases z; exact e1
      · rw [upd_ne hb] at z; exact bt.st b o hb (hs _ _ z)
    · have hb : b ≠ p := fun q => by rw [q, gp] at n; cases n
      exact ⟨bt.st b o hb z, by rw [upd_ne hb]; exact n⟩
end
end AW

set_option linter.all false
set_option maxRecDepth 100000
set_option maxHeartbeats 8000000
namespace AW
open PySem PySem.Spec PyProof.Rows L2
variable [Tbs]
def lastF (n : Int) : Int := if n = 0 then 72 else if n = 1 then 72 else if n = 2 then 44 else if n = 3 then 108 else if n = 4 then 72 else if n = 5 then 8 else if n = 6 then 108 else if n = 7 then 108 else if n = 8 then 8 else if n = 9 then 72 else if n = 10 then 108 else 44
def numF (n : Int) : Int := (((31 * n - 14) * n + 127) * n + 144) * n + lastF (n.fmod 12)
def withinF (n : Int) : Int := (numF n).fdiv 72
def sphereF (n : Int) : Int := if n = 0 then 1 else withinF n - withinF (n - 1)
theorem last_at {n : Int} (h0 : 0 ≤ n) (h1 : n < 12) : atI ([72, 72, 44, 108, 72, 8, 108, 108, 8, 72, 108, 44].map D.int) n = some (.int (lastF n)) := by
  have h : n = 0 ∨ n = 1 ∨ n = 2 ∨ n = 3 ∨ n = 4 ∨ n = 5 ∨ n = 6 ∨ n = 7 ∨ n = 8 ∨ n = 9 ∨ n = 10 ∨ n = 11 := by omega
  rcases h with rfl | rfl | rfl | rfl | rfl | rfl | rfl | rfl | rfl | rfl | rfl | rfl <;> rfl
theorem bd0 {k : Nat} : Bd k 0 := Nat.pos_of_ne_zero (by have := Nat.one_le_two_pow (n := k); omega)
section
variable {P : Program} {w : World} {K : PySem.W.Frag} {mg : Str → Option Value} {base : Heap}
def pr_l_pick (T : Tx K mg) : Pr := fun ds B k e => ∃ xs : List D, ds = [penF, .lst xs] ∧ 0 < xs.length ∧ xs.length ≤ 1000 ∧ B ≤ 1000000 ∧ ∀ d, d ∈ xs → k d (B + 1)
theorem okD_l_pick (T : Tx K mg) : FnOk P w K mg base (L2.CX P w) 2 T.a_l_pick T.d_l_pick P_l_pick (spD K (pr_l_pick T)) := by
  refine T.F_l_pick.okX sc_l_pick (spD_len fun ds B k e h => by obtain ⟨xs, rfl, h0, h1, hB, hk⟩ := h; rfl) (fun cdv A outer s H vs Q E hr h => ?_)
  have G_l_draw : FnOk P w K mg base (L2.CX P w) 1 _ _ _ _ := okD_l_draw T
  obtain ⟨G, ds, B, k, e, hs, hR, ⟨xs, rfl, h0, h1, hB, hk⟩, hK, hX⟩ := h
  refine ⟨_, (pss_one (ps_ret (pe_ix ix_list (pv 1) (pe_call G_l_draw (hr.mono (by decide)) (by rfl) T.g_l_draw T.F_l_draw.kp T.b_l_draw .nil passL (pa_cons (pv 0) (pa_cons (pe_callB call_len_seq (by rfl) T.n_len (by decide +kernel) (pa_cons (pv 1) pa_nil)) pa_nil))) (fun _ _ => rfl)))), run_body (ρ := [some penF, some (.lst xs)]) hs hR hK hX rfl ?_⟩
  refine (ws_ret (we_op (we_var rfl (we_call (wa_cons (we_var rfl (wa_cons (we_lenL (wa_cons (we_var rfl (wa_nil ⟨_, rfl, (wa_nil ⟨_, rfl, by omega, by omega, hB, fun d d0 d1 => ?_⟩)⟩)))))))))))
  obtain ⟨j, rfl⟩ := Int.eq_ofNat_of_zero_le d0
  have hj : j < xs.length := by omega
  exact ro_ixL (atI_nat (List.getElem?_eq_getElem hj)) (hk _ (List.getElem_mem hj))
def pr_l_great (T : Tx K mg) : Pr := fun ds B k e => ds = [penF, .int 80] ∧ B ≤ 800000 ∧ ∀ (i : Int) B', 0 ≤ i → Bd 300 i → B' ≤ B + 15 → k (.int i) B'
theorem okD_l_great (T : Tx K mg) : FnOk P w K mg base (L2.CX P w) 3 T.a_l_great T.d_l_great P_l_great (spD K (pr_l_great T)) := by
  refine T.F_l_great.okX sc_l_great (spD_len fun ds B k e h => by obtain ⟨rfl, hB, hk⟩ := h; rfl) (fun cdv A outer s H vs Q E hr h => ?_)
  have G_l_draw : FnOk P w K mg base (L2.CX P w) 1 _ _ _ _ := okD_l_draw T
  obtain ⟨G, ds, B, k, e, hs, hR, ⟨rfl, hB, hk⟩, hK, hX⟩ := h
  refine ⟨_, (pss_cons (ps_set (i := 2) sc_l_great.nd rfl (.inl rfl) pe_int)
 (pss_cons (ps_for (passes_of rfl) rfl (pi_range1 (by rfl) T.n_range (pa_cons (pe_op op_add pe_int (pe_call G_l_draw (hr.mono (by decide)) (by rfl) T.g_l_draw T.F_l_draw.kp T.b_l_draw .nil passL (pa_cons (pv 0) (pa_cons (pe_op op_fdivG (pv 1) pe_int) pa_nil)))) pa_nil)) (pg_name (i := 3) sc_l_great.nd rfl (.inl rfl))
 (pss_one (ps_set (i := 2) sc_l_great.nd rfl (.inl rfl) (pe_op op_add (pe_op op_mulW (pv 2) (pe_op op_pow pe_int pe_int)) (pe_call G_l_draw (hr.mono (by decide)) (by rfl) T.g_l_draw T.F_l_draw.kp T.b_l_draw .nil passL (pa_cons (pv 0) (pa_cons (pe_op op_pow pe_int pe_int) pa_nil)))))))
 (pss_one (ps_ret (pv 2))))), run_body (ρ := [some penF, some (.int 80), none, none]) hs hR hK hX rfl ?_⟩
  refine ws_seq (ws_set (we_int ?_))
  refine ws_cut (fun ρ' B' => (∃ f o, ρ' = [some penF, some (.int 80), some (.int f), o] ∧ 0 ≤ f ∧ Bd 300 f) ∧ B' ≤ B + 15) ?_ ?_
  · refine ws_for_range1 (wa_cons (we_op (we_int (we_call (wa_cons (we_var rfl (wa_cons (we_op (we_var rfl (we_int (ro_i ⟨by decide +kernel, by decide +kernel⟩ (wa_nil ⟨_, rfl, by decide, by decide, by omega, fun d d0 d1 => ro_i0 (wa_nil ⟨_, rfl, by omega, ?_, fun i ρ' B' => (∃ f o, ρ' = [some penF, some (.int 80), some (.int f), o] ∧ 0 ≤ f ∧ Bd (25 * i) f) ∧ B' ≤ B + 1 + i, ⟨⟨_, _, rfl, Int.le_refl _, bd0⟩, by omega⟩, fun i ρ' B' hi hI => ?_, fun ρ' B' hI => ?_⟩)⟩))))))))))))
    · have : (80 : Int).fdiv 7 = 11 := by decide
      omega
    · have e7 : (80 : Int).fdiv 7 = 11 := by decide
      obtain ⟨⟨f, o, rfl, f0, bf⟩, hB'⟩ := hI
      have hi2 : i ≤ 10 := by omega
      refine wg_name ?_
      have bf2 : Bd 300 f := bf.mono (by omega)
      refine (ws_set (we_op (we_op (we_var rfl (we_op (we_int (we_int (ro_i ⟨by decide +kernel, by decide +kernel, by decide +kernel⟩ (ro_i (cmc (by apply Bd.mono; (repeat (first | assumption | exact Bd.lit 64 (by decide +kernel) | exact Bd.lit 2000 (by decide +kernel) | apply Bd.neg | apply Bd.fdiv | apply Bd.mul | apply Bd.add2 | apply Bd.sub2)); decide) (by apply Bd.mono; (repeat (first | assumption | exact Bd.lit 64 (by decide +kernel) | exact Bd.lit 2000 (by decide +kernel) | apply Bd.neg | apply Bd.fdiv | apply Bd.mul | apply Bd.add2 | apply Bd.sub2)); decide)) (we_call (wa_cons (we_var rfl (wa_cons (we_op (we_int (we_int (ro_i ⟨by decide +kernel, by decide +kernel, by decide +kernel⟩ (wa_nil ⟨_, rfl, by decide +kernel, by decide +kernel, by omega, fun c c0 c1 => (ro_i0 ?_)⟩))))))))))))))))))
      have e10 : (10 : Int) ^ (7 : Int).toNat = 10000000 := by decide
      rw [e10] at c1 ⊢
      refine ⟨⟨_, _, rfl, by omega, ?_⟩, by omega⟩
      unfold Bd at *
      have p : (2 : Nat) ^ (25 * (i + 1)) = 2 ^ (25 * i) * 33554432 := by rw [Nat.mul_add, Nat.pow_add]
      rw [p]
      omega
    · have e7 : (80 : Int).fdiv 7 = 11 := by decide
      obtain ⟨⟨f, o, rfl, f0, bf⟩, hB'⟩ := hI
      exact ⟨⟨_, _, rfl, f0, bf.mono (by omega)⟩, by omega⟩
  rintro _ B9 ⟨⟨f, o, rfl, f0, bf⟩, hB9⟩
  exact ws_ret (we_var rfl (hk _ _ f0 bf hB9))
def pr_places_within (T : Tx K mg) : Pr := fun ds B k e => ∃ n : Int, ds = [.int n] ∧ Bd 400 n ∧ k (.int (withinF n)) B
theorem okD_places_within (T : Tx K mg) : FnOk P w K mg base (L2.CX P w) 1 T.a_places_within T.d_places_within P_places_within (spD K (pr_places_within T)) := by
  refine T.F_places_within.okX sc_places_within (spD_len fun ds B k e h => by obtain ⟨n, rfl, hn, hk⟩ := h; rfl) (fun cdv A outer s H vs Q E hr h => ?_)
  obtain ⟨G, ds, B, k, e, hs, hR, ⟨n, rfl, hn, hk⟩, hK, hX⟩ := h
  refine ⟨_, (pss_cons (ps_set (i := 1) sc_places_within.nd rfl (.inl rfl) (pe_ix ix_tup (pe_glob (v := .ref T.c_LAST_FIGURES) (by rfl) T.gc_LAST_FIGURES rfl) (pe_op op_modN (pv 0) (pe_callB call_len_seq (by rfl) T.n_len (by decide +kernel) (pa_cons (pe_glob (v := .ref T.c_LAST_FIGURES) (by rfl) T.gc_LAST_FIGURES rfl) pa_nil))) (fun _ _ => rfl)))
 (pss_one (ps_ret (pe_op op_fdivG (pe_op op_add (pe_op op_mulW (pe_op op_add (pe_op op_mulW (pe_op op_add (pe_op op_mulW (pe_op op_sub (pe_op op_mul pe_int (pv 0)) pe_int) (pv 0)) pe_int) (pv 0)) pe_int) (pv 0)) (pv 1)) pe_int)))), run_body (ρ := [some (.int n), none]) hs hR hK hX rfl ?_⟩
  refine ws_seq (ws_set (we_op (we_constT (ns := [72, 72, 44, 108, 72, 8, 108, 108, 8, 72, 108, 44]) T.qc_LAST_FIGURES (we_op (we_var rfl (we_lenT (wa_cons (we_constT (ns := [72, 72, 44, 108, 72, 8, 108, 108, 8, 72, 108, 44]) T.qc_LAST_FIGURES (wa_nil ⟨_, rfl, ro_i (by decide) (ro_ixT (last_at (Int.fmod_nonneg_of_pos _ (by decide)) (Int.fmod_lt_of_pos _ (by decide))) ?_)⟩)))))))))
  refine (ws_ret (we_op (we_op (we_op (we_op (we_op (we_op (we_op (we_op (we_op (we_int (we_var rfl (ro_i (.inl ⟨by decide +kernel, by decide +kernel⟩) (we_int (ro_i0 (we_var rfl (ro_i (cmc (by apply Bd.mono; (repeat (first | assumption | exact Bd.lit 64 (by decide +kernel) | exact Bd.lit 2000 (by decide +kernel) | apply Bd.neg | apply Bd.fdiv | apply Bd.mul | apply Bd.add2 | apply Bd.sub2)); decide) (by apply Bd.mono; (repeat (first | assumption | exact Bd.lit 64 (by decide +kernel) | exact Bd.lit 2000 (by decide +kernel) | apply Bd.neg | apply Bd.fdiv | apply Bd.mul | apply Bd.add2 | apply Bd.sub2)); decide)) (we_int (ro_i0 (we_var rfl (ro_i (cmc (by apply Bd.mono; (repeat (first | assumption | exact Bd.lit 64 (by decide +kernel) | exact Bd.lit 2000 (by decide +kernel) | apply Bd.neg | apply Bd.fdiv | apply Bd.mul | apply Bd.add2 | apply Bd.sub2)); decide) (by apply Bd.mono; (repeat (first | assumption | exact Bd.lit 64 (by decide +kernel) | exact Bd.lit 2000 (by decide +kernel) | apply Bd.neg | apply Bd.fdiv | apply Bd.mul | apply Bd.add2 | apply Bd.sub2)); decide)) (we_int (ro_i0 (we_var rfl (ro_i (cmc (by apply Bd.mono; (repeat (first | assumption | exact Bd.lit 64 (by decide +kernel) | exact Bd.lit 2000 (by decide +kernel) | apply Bd.neg | apply Bd.fdiv | apply Bd.mul | apply Bd.add2 | apply Bd.sub2)); decide) (by apply Bd.mono; (repeat (first | assumption | exact Bd.lit 64 (by decide +kernel) | exact Bd.lit 2000 (by decide +kernel) | apply Bd.neg | apply Bd.fdiv | apply Bd.mul | apply Bd.add2 | apply Bd.sub2)); decide)) (we_var rfl (ro_i0 (we_int (ro_i ⟨by decide +kernel, by decide +kernel⟩ ?_)))))))))))))))))))))))))))))
  exact hk
def pr_sphere (T : Tx K mg) : Pr := fun ds B k e => ∃ d, ds = [d] ∧ ((∃ n : Int, d = .int n ∧ 0 ≤ n ∧ Bd 330 n ∧ k (.int (sphereF n)) B) ∨ (plainD d = true ∧ badW d ∧ e T.C_BadNumber (some ((["value"] : List Str), [d])) B))
theorem okD_sphere (T : Tx K mg) : FnOk P w K mg base (L2.CX P w) 5 T.a_sphere T.d_sphere P_sphere (spD K (pr_sphere T)) := by
  refine T.F_sphere.okX sc_sphere (spD_len fun ds B k e h => by obtain ⟨d, rfl, hk⟩ := h; rfl) (fun cdv A outer s H vs Q E hr h => ?_)
  have G_check_whole : FnOk P w K mg base (L2.CX P w) 4 _ _ _ _ := okD_check_whole T
  have G_places_within : FnOk P w K mg base (L2.CX P w) 1 _ _ _ _ := okD_places_within T
  obtain ⟨G, ds, B, k, e, hs, hR, ⟨d, rfl, hk⟩, hK, hX⟩ := h
  refine ⟨_, (pss_cons (ps_expr (pe_call G_check_whole (hr.mono (by decide)) (by rfl) T.g_check_whole T.F_check_whole.kp T.b_check_whole .nil (passE (E := E)) (pa_cons (pv 0) pa_nil)))
 (pss_cons (ps_if (pt_cmpR op_eq (pv 0) pe_int (nomark _))
 (pss_one (ps_ret pe_int))
 pss_nil)
 (pss_one (ps_ret (pe_op op_sub (pe_call G_places_within (hr.mono (by decide)) (by rfl) T.g_places_within T.F_places_within.kp T.b_places_within .nil (passE (E := E)) (pa_cons (pv 0) pa_nil)) (pe_call G_places_within (hr.mono (by decide)) (by rfl) T.g_places_within T.F_places_within.kp T.b_places_within .nil (passE (E := E)) (pa_cons (pe_op op_sub (pv 0) pe_int) pa_nil))))))), run_body (ρ := [some d]) hs hR hK hX rfl ?_⟩
  rcases hk with ⟨n, rfl, h0, hn, hk⟩ | ⟨hp, hb, he⟩
  · have hn1 : Bd 400 (n - 1) := (by apply Bd.mono; (repeat (first | assumption | exact Bd.lit 64 (by decide +kernel) | exact Bd.lit 2000 (by decide +kernel) | apply Bd.neg | apply Bd.fdiv | apply Bd.mul | apply Bd.add2 | apply Bd.sub2)); decide)
    refine ws_seq (ws_drop (we_call (wa_cons (we_var rfl (wa_nil ⟨_, rfl, .inl ⟨_, rfl, h0, ?_⟩⟩)))))
    refine ws_seq (ws_if (wt_test (we_op (we_var rfl (we_int (ro_eqI ⟨_, rfl, ⟨fun hc1 => ?_, fun hc2 => ?_⟩⟩))))))
    · refine (ws_ret (we_int ?_))
      have e : sphereF n = 1 := if_pos (of_decide_eq_true hc1)
      rw [← e]; exact hk
    · refine ws_next ?_
      refine (ws_ret (we_op (we_call (wa_cons (we_var rfl (wa_nil ⟨_, rfl, by first | exact hn1 | exact hn.mono (by decide), (we_call (wa_cons (we_op (we_var rfl (we_int (ro_i0 (wa_nil ⟨_, rfl, by first | exact hn1 | exact hn.mono (by decide), (ro_i0 ?_)⟩)))))))⟩))))))
      have e : sphereF n = withinF n - withinF (n - 1) := if_neg (of_decide_eq_false hc2)
      rw [← e]; exact hk
  · refine ws_seq (ws_drop (we_callE (wa_cons (we_var rfl (wa_nil ⟨_, rfl, .inr ⟨hp, hb, ?_⟩⟩)))))
    exact he
def pr_ball (T : Tx K mg) : Pr := fun ds B k e => ∃ d, ds = [d] ∧ ((∃ n : Int, d = .int n ∧ 0 ≤ n ∧ Bd 330 n ∧ k (.int (withinF n)) B) ∨ (plainD d = true ∧ badW d ∧ e T.C_BadNumber (some ((["value"] : List Str), [d])) B))
theorem okD_ball (T : Tx K mg) : FnOk P w K mg base (L2.CX P w) 5 T.a_ball T.d_ball P_ball (spD K (pr_ball T)) := by
  refine T.F_ball.okX sc_ball (spD_len fun ds B k e h => by obtain ⟨d, rfl, hk⟩ := h; rfl) (fun cdv A outer s H vs Q E hr h => ?_)
  have G_check_whole : FnOk P w K mg base (L2.CX P w) 4 _ _ _ _ := okD_check_whole T
  have G_places_within : FnOk P w K mg base (L2.CX P w) 1 _ _ _ _ := okD_places_within T
  obtain ⟨G, ds, B, k, e, hs, hR, ⟨d, rfl, hk⟩, hK, hX⟩ := h
  refine ⟨_, (pss_cons (ps_expr (pe_call G_check_whole (hr.mono (by decide)) (by rfl) T.g_check_whole T.F_check_whole.kp T.b_check_whole .nil (passE (E := E)) (pa_cons (pv 0) pa_nil)))
 (pss_one (ps_ret (pe_call G_places_within (hr.mono (by decide)) (by rfl) T.g_places_within T.F_places_within.kp T.b_places_within .nil (passE (E := E)) (pa_cons (pv 0) pa_nil))))), run_body (ρ := [some d]) hs hR hK hX rfl ?_⟩
  rcases hk with ⟨n, rfl, h0, hn, hk⟩ | ⟨hp, hb, he⟩
  · refine ws_seq (ws_drop (we_call (wa_cons (we_var rfl (wa_nil ⟨_, rfl, .inl ⟨_, rfl, h0, ?_⟩⟩)))))
    refine (ws_ret (we_call (wa_cons (we_var rfl (wa_nil ⟨_, rfl, hn.mono (by decide), ?_⟩)))))
    exact hk
  · refine ws_seq (ws_drop (we_callE (wa_cons (we_var rfl (wa_nil ⟨_, rfl, .inr ⟨hp, hb, ?_⟩⟩)))))
    exact he
end
end AW

set_option linter.all false
set_option maxRecDepth 100000
set_option maxHeartbeats 8000000
namespace AW
open PySem PySem.Spec PyProof.Rows L2
variable [Tbs]
def b2i (b : Bool) : Int := if b then 1 else 0
def bestF (x y ex : Int) : Nat → Int
  | 0 => 0
  | i + 1 => if (x + (0 + (i : Int))) * (y + ex - (0 + (i : Int))) > bestF x y ex i then (x + (0 + (i : Int))) * (y + ex - (0 + (i : Int))) else bestF x y ex i
def cellF (n x y : Int) : Int := (2 * bestF x y ((n - x - y).fdiv 2) ((n - x - y).fdiv 2 + 1).toNat - x * y + 1) * (1 + b2i (decide (x > 0))) * (1 + b2i (decide (y > 0)))
def rowF (n x : Int) : Nat → Int
  | 0 => 0
  | j + 1 => rowF n x j + if (n - x - (0 + (j : Int))).fmod 2 = 0 then cellF n x (0 + (j : Int)) else 0
def allF (n : Int) : Nat → Int
  | 0 => 0
  | i + 1 => allF n i + rowF n (0 + (i : Int)) (n + 1 - (0 + (i : Int))).toNat
def reachedF (n : Int) : Int := allF n (n + 1).toNat
theorem best_bd {x y ex : Int} (hx : 0 ≤ x ∧ x ≤ 60) (hy : 0 ≤ y ∧ y ≤ 60) (he : 0 ≤ ex ∧ ex ≤ 60) : ∀ i : Nat, i ≤ 61 → Bd 20 (bestF x y ex i)
  | 0, _ => bd0
  | i + 1, h => by
    have ih := best_bd hx hy he i (by omega)
    have b1 : Bd 8 (x + (0 + (i : Int))) := by unfold Bd; omega
    have b2 : Bd 8 (y + ex - (0 + (i : Int))) := by unfold Bd; omega
    unfold bestF
    split
    · exact (Bd.mul b1 b2).mono (by decide)
    · exact ih
section
variable {P : Program} {w : World} {K : PySem.W.Frag} {mg : Str → Option Value} {base : Heap}
def pr_l_reached (T : Tx K mg) : Pr := fun ds B k e => ∃ n : Int, ds = [.int n] ∧ 0 ≤ n ∧ n ≤ 60 ∧ k (.int (reachedF n)) B
def stR (n f : Int) (o2 o3 o4 o5 o6 o7 : Option D) : List (Option D) := [some (.int n), some (.int f), o2, o3, o4, o5, o6, o7]
theorem okD_l_reached (T : Tx K mg) : FnOk P w K mg base (L2.CX P w) 1 T.a_l_reached T.d_l_reached P_l_reached (spD K (pr_l_reached T)) := by
  refine T.F_l_reached.okX sc_l_reached (spD_len fun ds B k e h => by obtain ⟨n, rfl, n0, n1, hk⟩ := h; rfl) (fun cdv A outer s H vs Q E hr h => ?_)
  obtain ⟨G, ds, B, k, e, hs, hR, ⟨n, rfl, n0, n1, hk⟩, hK, hX⟩ := h
  refine ⟨_, (pss_cons (ps_set (i := 1) sc_l_reached.nd rfl (.inl rfl) pe_int)
 (pss_cons (ps_for (passes_of rfl) rfl (pi_range1 (by rfl) T.n_range (pa_cons (pe_op op_add (pv 0) pe_int) pa_nil)) (pg_name (i := 2) sc_l_reached.nd rfl (.inl rfl))
 (pss_one (ps_for (passes_of rfl) rfl (pi_range1 (by rfl) T.n_range (pa_cons (pe_op op_sub (pe_op op_add (pv 0) pe_int) (pv 2)) pa_nil)) (pg_name (i := 3) sc_l_reached.nd rfl (.inl rfl))
 (pss_one (ps_if (pt_cmpR op_eq (pe_op op_modN (pe_callTy call_int1 (by rfl) T.n_int (by decide +kernel) (pa_cons (pe_op op_sub (pe_op op_sub (pv 0) (pv 2)) (pv 3)) pa_nil)) pe_int) pe_int (nomark _))
 (pss_cons (ps_par (i := 4) (j := 5) (by rfl) sc_l_reached.nd rfl rfl (by decide) rfl rfl (pa_cons (pe_op op_fdivG (pe_op op_sub (pe_op op_sub (pv 0) (pv 2)) (pv 3)) pe_int) (pa_cons pe_int pa_nil)) (by rfl))
 (pss_cons (ps_for (passes_of rfl) rfl (pi_range1 (by rfl) T.n_range (pa_cons (pe_op op_add (pv 4) pe_int) pa_nil)) (pg_name (i := 6) sc_l_reached.nd rfl (.inl rfl))
 (pss_cons (ps_set (i := 7) sc_l_reached.nd rfl (.inl rfl) (pe_op op_mulW (pe_op op_add (pv 2) (pv 6)) (pe_op op_sub (pe_op op_add (pv 3) (pv 4)) (pv 6))))
 (pss_one (ps_set (i := 5) sc_l_reached.nd rfl (.inl rfl) (pe_ifExp (pt_cmpR op_gt (pv 7) (pv 5) (nomark _)) (pv 7) (pv 5))))))
 (pss_one (ps_set (i := 1) sc_l_reached.nd rfl (.inl rfl) (pe_op op_add (pv 1) (pe_op op_mulW (pe_op op_mulW (pe_op op_add (pe_op op_sub (pe_op op_mul pe_int (pv 5)) (pe_op op_mulW (pv 2) (pv 3))) pe_int) (pe_op op_add pe_int (pe_callTy call_int1 (by rfl) T.n_int (by decide +kernel) (pa_cons (pe_cmpR op_gt (pv 2) pe_int (nomark _)) pa_nil)))) (pe_op op_add pe_int (pe_callTy call_int1 (by rfl) T.n_int (by decide +kernel) (pa_cons (pe_cmpR op_gt (pv 3) pe_int (nomark _)) pa_nil)))))))))
 pss_nil)))))
 (pss_one (ps_ret (pv 1))))), run_body (ρ := [some (.int n), none, none, none, none, none, none, none]) hs hR hK hX rfl ?_⟩
  refine ws_seq (ws_set (we_int ?_))
  refine ws_cut (fun ρ' B' => (∃ o2 o3 o4 o5 o6 o7, ρ' = stR n (reachedF n) o2 o3 o4 o5 o6 o7) ∧ B = B') ?_ ?_
  · refine ws_for_range1 (wa_cons (we_op (we_var rfl (we_int (ro_i0 (wa_nil ⟨_, rfl, by omega, by omega, fun i ρ' B' => (∃ o2 o3 o4 o5 o6 o7, ρ' = stR n (allF n i) o2 o3 o4 o5 o6 o7) ∧ B = B', ⟨⟨_, _, _, _, _, _, rfl⟩, rfl⟩, fun i ρ' B' hi hI => ?_, fun ρ' B' hI => hI⟩))))))
    obtain ⟨⟨o2, o3, o4, o5, o6, o7, rfl⟩, rfl⟩ := hI
    have hi2 : (i : Int) ≤ n := by omega
    refine wg_name ?_
    refine ws_for_range1 (wa_cons (we_op (we_op (we_var rfl (we_int (ro_i0 (we_var rfl (ro_i0 (wa_nil ⟨_, rfl, by omega, by omega, fun j ρ' B' => (∃ o3 o4 o5 o6 o7, ρ' = stR n (allF n i + rowF n (0 + (i : Int)) j) (some (.int (0 + (i : Int)))) o3 o4 o5 o6 o7) ∧ B = B', ⟨⟨o3, o4, o5, o6, o7, ?_⟩, rfl⟩, fun j ρ' B' hj hI => ?_, fun ρ' B' hI => ?_⟩)))))))))
    · show _ = stR n (allF n i + 0) _ _ _ _ _ _
      rw [Int.add_zero]
      rfl
    · obtain ⟨⟨o3, o4, o5, o6, o7, rfl⟩, rfl⟩ := hI
      refine wg_name ?_
      have hj2 : 0 ≤ n - (0 + (i : Int)) - (0 + (j : Int)) := by omega
      refine ws_if (wt_test (we_op (we_op (we_intof (wa_cons (we_op (we_op (we_var rfl (we_var rfl (ro_i0 (we_var rfl (ro_i0 (wa_nil ⟨_, rfl, we_int (ro_i (by decide) (we_int (ro_eqI ⟨_, rfl, ⟨fun hc1 => ?_, fun hc2 => ?_⟩⟩)))⟩)))))))))))))
      · have hz := of_decide_eq_true hc1
        have hex : 0 ≤ (n - (0 + (i : Int)) - (0 + (j : Int))).fdiv 2 ∧ (n - (0 + (i : Int)) - (0 + (j : Int))).fdiv 2 ≤ 60 := by
          have := Int.mul_fdiv_add_fmod (n - (0 + (i : Int)) - (0 + (j : Int))) 2
          omega
        refine ws_seq (ws_par (wa_cons (we_op (we_op (we_op (we_var rfl (we_var rfl (ro_i0 (we_var rfl (ro_i0 (we_int (ro_i ⟨by decide +kernel, by decide +kernel⟩ (wa_cons (we_int (wa_nil ⟨_, _, rfl, ?_⟩)))))))))))))))
        generalize eX : (n - (0 + (i : Int)) - (0 + (j : Int))).fdiv 2 = ex at hex
        refine ws_cut (fun ρ' B' => (∃ o6 o7, ρ' = stR n (allF n i + rowF n (0 + (i : Int)) j) (some (.int (0 + (i : Int)))) (some (.int (0 + (j : Int)))) (some (.int ex)) (some (.int (bestF (0 + (i : Int)) (0 + (j : Int)) ex (ex + 1).toNat))) o6 o7) ∧ B = B') ?_ ?_
        · refine ws_for_range1 (wa_cons (we_op (we_var rfl (we_int (ro_i0 (wa_nil ⟨_, rfl, by omega, by omega, fun m ρ' B' => (∃ o6 o7, ρ' = stR n (allF n i + rowF n (0 + (i : Int)) j) (some (.int (0 + (i : Int)))) (some (.int (0 + (j : Int)))) (some (.int ex)) (some (.int (bestF (0 + (i : Int)) (0 + (j : Int)) ex m))) o6 o7) ∧ B = B', ⟨⟨_, _, rfl⟩, rfl⟩, fun m ρ' B' hm hI => ?_, fun ρ' B' hI => hI⟩))))))
          obtain ⟨⟨o6, o7, rfl⟩, rfl⟩ := hI
          refine wg_name ?_
          have b1 : Bd 8 (0 + (i : Int) + (0 + (m : Int))) := by unfold Bd; omega
          have b2 : Bd 8 (0 + (j : Int) + ex - (0 + (m : Int))) := by unfold Bd; omega
          refine ws_seq (ws_set (we_op (we_op (we_var rfl (we_var rfl (ro_i0 (we_op (we_op (we_var rfl (we_var rfl (ro_i0 (we_var rfl (ro_i0 (ro_i (cmc (by apply Bd.mono; (repeat (first | assumption | exact Bd.lit 64 (by decide +kernel) | exact Bd.lit 2000 (by decide +kernel) | apply Bd.neg | apply Bd.fdiv | apply Bd.mul | apply Bd.add2 | apply Bd.sub2)); decide) (by apply Bd.mono; (repeat (first | assumption | exact Bd.lit 64 (by decide +kernel) | exact Bd.lit 2000 (by decide +kernel) | apply Bd.neg | apply Bd.fdiv | apply Bd.mul | apply Bd.add2 | apply Bd.sub2)); decide)) ?_))))))))))))))
          refine (ws_set (we_ifE (wt_test (we_op (we_var rfl (we_var rfl (ro_b0 ⟨_, rfl, ⟨fun hc1 => (we_var rfl ?_), fun hc2 => (we_var rfl ?_)⟩⟩)))))))
          · exact ⟨⟨_, _, by show _ = stR _ _ _ _ _ (some (.int (bestF _ _ _ (m + 1)))) _ _; rw [bestF, if_pos (of_decide_eq_true hc1)]; rfl⟩, rfl⟩
          · exact ⟨⟨_, _, by show _ = stR _ _ _ _ _ (some (.int (bestF _ _ _ (m + 1)))) _ _; rw [bestF, if_neg (of_decide_eq_false hc2)]; rfl⟩, rfl⟩
        rintro _ _ ⟨⟨o6, o7, rfl⟩, rfl⟩
        have bb : Bd 20 (bestF (0 + (i : Int)) (0 + (j : Int)) ex (ex + 1).toNat) := best_bd (by omega) (by omega) hex _ (by omega)
        have bx : Bd 8 (0 + (i : Int)) := by unfold Bd; omega
        have by' : Bd 8 (0 + (j : Int)) := by unfold Bd; omega
        have c1 : Bd 4 (1 + (if decide (0 + (i : Int) > 0) = true then (1 : Int) else 0)) := by split <;> exact Bd.lit 4 (by decide)
        have c2 : Bd 4 (1 + (if decide (0 + (j : Int) > 0) = true then (1 : Int) else 0)) := by split <;> exact Bd.lit 4 (by decide)
        refine (ws_set (we_op (we_var rfl (we_op (we_op (we_op (we_op (we_op (we_int (we_var rfl (ro_i (.inl ⟨by decide +kernel, by decide +kernel⟩) (we_op (we_var rfl (we_var rfl (ro_i (cmc (by apply Bd.mono; (repeat (first | assumption | exact Bd.lit 64 (by decide +kernel) | exact Bd.lit 2000 (by decide +kernel) | apply Bd.neg | apply Bd.fdiv | apply Bd.mul | apply Bd.add2 | apply Bd.sub2)); decide) (by apply Bd.mono; (repeat (first | assumption | exact Bd.lit 64 (by decide +kernel) | exact Bd.lit 2000 (by decide +kernel) | apply Bd.neg | apply Bd.fdiv | apply Bd.mul | apply Bd.add2 | apply Bd.sub2)); decide)) (ro_i0 (we_int (ro_i0 (we_op (we_int (we_intofB (wa_cons (we_op (we_var rfl (we_int (ro_b0 (wa_nil ⟨_, rfl, (ro_i0 (ro_i (cmc (by apply Bd.mono; (repeat (first | assumption | exact Bd.lit 64 (by decide +kernel) | exact Bd.lit 2000 (by decide +kernel) | apply Bd.neg | apply Bd.fdiv | apply Bd.mul | apply Bd.add2 | apply Bd.sub2)); decide) (by apply Bd.mono; (repeat (first | assumption | exact Bd.lit 64 (by decide +kernel) | exact Bd.lit 2000 (by decide +kernel) | apply Bd.neg | apply Bd.fdiv | apply Bd.mul | apply Bd.add2 | apply Bd.sub2)); decide)) (we_op (we_int (we_intofB (wa_cons (we_op (we_var rfl (we_int (ro_b0 (wa_nil ⟨_, rfl, (ro_i0 (ro_i (cmc (by apply Bd.mono; (repeat (first | assumption | exact Bd.lit 64 (by decide +kernel) | exact Bd.lit 2000 (by decide +kernel) | apply Bd.neg | apply Bd.fdiv | apply Bd.mul | apply Bd.add2 | apply Bd.sub2)); decide) (by apply Bd.mono; (repeat (first | assumption | exact Bd.lit 64 (by decide +kernel) | exact Bd.lit 2000 (by decide +kernel) | apply Bd.neg | apply Bd.fdiv | apply Bd.mul | apply Bd.add2 | apply Bd.sub2)); decide)) (ro_i0 ?_)))⟩)))))))))))⟩)))))))))))))))))))))))))))
        refine ⟨⟨some (.int (0 + (j : Int))), some (.int ex), some (.int (bestF (0 + (i : Int)) (0 + (j : Int)) ex (ex + 1).toNat)), o6, o7, ?_⟩, rfl⟩
        show _ = stR _ (_ + rowF _ _ (j + 1)) _ _ _ _ _ _
        rw [rowF, if_pos hz]
        unfold cellF
        rw [eX, ← Int.add_assoc]
        rfl
      · have hz := of_decide_eq_false hc2
        exact ws_next ⟨⟨_, _, _, _, _, by show _ = stR _ (_ + rowF _ _ (j + 1)) _ _ _ _ _ _; rw [rowF, if_neg hz, Int.add_zero]; rfl⟩, rfl⟩
    · obtain ⟨⟨o3, o4, o5, o6, o7, rfl⟩, rfl⟩ := hI
      exact ⟨⟨_, _, _, _, _, _, rfl⟩, rfl⟩
  rintro _ _ ⟨⟨o2, o3, o4, o5, o6, o7, rfl⟩, rfl⟩
  exact ws_ret (we_var rfl hk)
end
end AW

set_option linter.all false
set_option maxRecDepth 100000
set_option maxHeartbeats 8000000
namespace AW
open PySem PySem.Spec PyProof.Rows L2
variable [Tbs]
def partF (v at_ k : Int) : Nat → Int
  | 0 => v
  | j + 1 => if 0 + (j : Int) = k then partF v at_ k j else partF v at_ k j * (at_ - (0 + (j : Int)))
def belowF (k : Int) : Nat → Int
  | 0 => 1
  | j + 1 => if 0 + (j : Int) = k then belowF k j else belowF k j * (k - (0 + (j : Int)))
def totalF (row : List Int) (at_ : Int) : Nat → Int
  | 0 => 0
  | k + 1 => totalF row at_ k + partF (row.getD k 0) at_ (0 + (k : Int)) row.length * (720 : Int).fdiv (belowF (0 + (k : Int)) row.length)
def carriedF (row : List Int) (at_ : Int) : Int := (totalF row at_ row.length).fdiv 720
theorem getD_at {row : List Int} {i : Nat} (h : i < row.length) : row.getD i 0 = row[i] := by simp [List.getD_eq_getElem?_getD, h]
theorem part_bd {v a k : Int} (hv : Bd 1500 v) (ha : Bd 320 a) : ∀ j : Nat, j ≤ 5 → Bd (1500 + 400 * j) (partF v a k j)
  | 0, _ => hv
  | j + 1, h => by
    have ih := part_bd (k := k) hv ha j (by omega)
    unfold partF
    split
    · exact ih.mono (by omega)
    · have b : Bd 330 (a - (0 + (j : Int))) := Bd.mono (Bd.sub2 ha (show Bd 4 (0 + (j : Int)) by unfold Bd; omega)) (by decide)
      exact (Bd.mul ih b).mono (by omega)
theorem below_nz (k : Nat) (hk : k < 5) : ∀ j : Nat, j ≤ 5 → belowF (0 + (k : Int)) j ≠ 0
  | 0, _ => by show (1 : Int) ≠ 0; decide
  | j + 1, h => by
    have ih := below_nz k hk j (by omega)
    unfold belowF
    split
    · exact ih
    · exact Int.mul_ne_zero ih (by omega)
theorem below_bd (k : Nat) (hk : k < 5) : ∀ j : Nat, j ≤ 5 → Bd (10 * (j + 1)) (belowF (0 + (k : Int)) j)
  | 0, _ => by show Bd (10 * (0 + 1)) 1; exact Bd.lit _ (by decide)
  | j + 1, h => by
    have ih := below_bd k hk j (by omega)
    unfold belowF
    split
    · exact ih.mono (by omega)
    · have b : Bd 4 (0 + (k : Int) - (0 + (j : Int))) := by unfold Bd; omega
      exact (Bd.mul ih b).mono (by omega)
section
variable {P : Program} {w : World} {K : PySem.W.Frag} {mg : Str → Option Value} {base : Heap}
def pr_l_carried (T : Tx K mg) : Pr := fun ds B k e => ∃ (row : List Int) (a : Int), ds = [.lst (row.map D.int), .int a] ∧ row.length ≤ 5 ∧ (∀ v ∈ row, Bd 1500 v) ∧ Bd 320 a ∧ k (.int (carriedF row a)) B
def stC (row : List Int) (a t : Int) (o3 o4 o5 o6 : Option D) : List (Option D) := [some (.lst (row.map D.int)), some (.int a), some (.int t), o3, o4, o5, o6]
theorem okD_l_carried (T : Tx K mg) : FnOk P w K mg base (L2.CX P w) 1 T.a_l_carried T.d_l_carried P_l_carried (spD K (pr_l_carried T)) := by
  refine T.F_l_carried.okX sc_l_carried (spD_len fun ds B k e h => by obtain ⟨row, a, rfl, hl, hr2, ha, hk⟩ := h; rfl) (fun cdv A outer s H vs Q E hr h => ?_)
  obtain ⟨G, ds, B, k, e, hs, hR, ⟨row, a, rfl, hl, hr2, ha, hk⟩, hK, hX⟩ := h
  refine ⟨_, (pss_cons (ps_set (i := 2) sc_l_carried.nd rfl (.inl rfl) pe_int)
 (pss_cons (ps_for (passes_of rfl) rfl (pi_range1 (by rfl) T.n_range (pa_cons (pe_callB call_len_seq (by rfl) T.n_len (by decide +kernel) (pa_cons (pv 0) pa_nil)) pa_nil)) (pg_name (i := 3) sc_l_carried.nd rfl (.inl rfl))
 (pss_cons (ps_par (i := 4) (j := 5) (by rfl) sc_l_carried.nd rfl rfl (by decide) rfl rfl (pa_cons (pe_ix ix_list (pv 0) (pv 3) (fun _ _ => rfl)) (pa_cons pe_int pa_nil)) (by rfl))
 (pss_cons (ps_for (passes_of rfl) rfl (pi_range1 (by rfl) T.n_range (pa_cons (pe_callB call_len_seq (by rfl) T.n_len (by decide +kernel) (pa_cons (pv 0) pa_nil)) pa_nil)) (pg_name (i := 6) sc_l_carried.nd rfl (.inl rfl))
 (pss_one (ps_if (pt_cmpR op_ne (pv 6) (pv 3) (nomark _))
 (pss_one (ps_par (i := 4) (j := 5) (by rfl) sc_l_carried.nd rfl rfl (by decide) rfl rfl (pa_cons (pe_op op_mulW (pv 4) (pe_op op_sub (pv 1) (pv 6))) (pa_cons (pe_op op_mulW (pv 5) (pe_op op_sub (pv 3) (pv 6))) pa_nil)) (by rfl)))
 pss_nil)))
 (pss_one (ps_set (i := 2) sc_l_carried.nd rfl (.inl rfl) (pe_op op_add (pv 2) (pe_op op_mulW (pv 4) (pe_op op_fdivG pe_int (pv 5)))))))))
 (pss_one (ps_ret (pe_op op_fdivG (pv 2) pe_int))))), run_body (ρ := [some (.lst (row.map D.int)), some (.int a), none, none, none, none, none]) hs hR hK hX rfl ?_⟩
  refine ws_seq (ws_set (we_int ?_))
  refine ws_cut (fun ρ' B' => (∃ o3 o4 o5 o6, ρ' = stC row a (totalF row a row.length) o3 o4 o5 o6) ∧ B = B') ?_ ?_
  · refine ws_for_range1 (wa_cons (we_lenL (wa_cons (we_var rfl (wa_nil ⟨_, rfl, wa_nil ⟨_, rfl, by omega, by rw [List.length_map]; omega, fun i ρ' B' => (∃ o3 o4 o5 o6, ρ' = stC row a (totalF row a i) o3 o4 o5 o6) ∧ B = B', ⟨⟨_, _, _, _, rfl⟩, rfl⟩, fun i ρ' B' hi hI => ?_, fun ρ' B' hI => ?_⟩⟩)))))
    · rw [List.length_map] at hi
      have hi2 : i < row.length := by omega
      obtain ⟨⟨o3, o4, o5, o6, rfl⟩, rfl⟩ := hI
      refine wg_name ?_
      have hat : atI (row.map D.int) (0 + (i : Int)) = some (.int (row.getD i 0)) := by
        rw [Int.zero_add]
        refine atI_nat ?_
        rw [List.getElem?_map, List.getElem?_eq_getElem hi2, getD_at hi2]
        rfl
      have bv : Bd 1500 (row.getD i 0) := by
        rw [getD_at hi2]
        exact hr2 _ (List.getElem_mem hi2)
      refine ws_seq (ws_par (wa_cons (we_op (we_var rfl (we_var rfl (ro_ixL hat (wa_cons (we_int (wa_nil ⟨_, _, rfl, ?_⟩)))))))))
      refine ws_cut (fun ρ' B' => (∃ o6, ρ' = stC row a (totalF row a i) (some (.int (0 + (i : Int)))) (some (.int (partF (row.getD i 0) a (0 + (i : Int)) row.length))) (some (.int (belowF (0 + (i : Int)) row.length))) o6) ∧ B = B') ?_ ?_
      · refine ws_for_range1 (wa_cons (we_lenL (wa_cons (we_var rfl (wa_nil ⟨_, rfl, wa_nil ⟨_, rfl, by omega, by rw [List.length_map]; omega, fun j ρ' B' => (∃ o6, ρ' = stC row a (totalF row a i) (some (.int (0 + (i : Int)))) (some (.int (partF (row.getD i 0) a (0 + (i : Int)) j))) (some (.int (belowF (0 + (i : Int)) j))) o6) ∧ B = B', ⟨⟨_, rfl⟩, rfl⟩, fun j ρ' B' hj hI => ?_, fun ρ' B' hI => ?_⟩⟩)))))
        · rw [List.length_map] at hj
          have hj2 : j < row.length := by omega
          obtain ⟨⟨o6, rfl⟩, rfl⟩ := hI
          refine wg_name ?_
          have b1 := part_bd (k := 0 + (i : Int)) bv ha j (by omega)
          have b2 := below_bd i (by omega) j (by omega)
          have b3 : Bd 330 (a - (0 + (j : Int))) := Bd.mono (Bd.sub2 ha (show Bd 4 (0 + (j : Int)) by unfold Bd; omega)) (by decide)
          have b4 : Bd 4 (0 + (i : Int) - (0 + (j : Int))) := by unfold Bd; omega
          have b1' : Bd 4000 (partF (row.getD i 0) a (0 + (i : Int)) j) := b1.mono (by omega)
          have b2' : Bd 100 (belowF (0 + (i : Int)) j) := b2.mono (by omega)
          clear b1 b2
          refine (ws_if (wt_test (we_op (we_var rfl (we_var rfl (ro_neI ⟨_, rfl, ⟨fun hc1 => ?_, fun hc2 => ?_⟩⟩))))))
          · refine (ws_par (wa_cons (we_op (we_var rfl (we_op (we_var rfl (we_var rfl (ro_i0 (ro_i (cmc (by apply Bd.mono; (repeat (first | assumption | exact Bd.lit 64 (by decide +kernel) | exact Bd.lit 2000 (by decide +kernel) | apply Bd.neg | apply Bd.fdiv | apply Bd.mul | apply Bd.add2 | apply Bd.sub2)); decide) (by apply Bd.mono; (repeat (first | assumption | exact Bd.lit 64 (by decide +kernel) | exact Bd.lit 2000 (by decide +kernel) | apply Bd.neg | apply Bd.fdiv | apply Bd.mul | apply Bd.add2 | apply Bd.sub2)); decide)) (wa_cons (we_op (we_var rfl (we_op (we_var rfl (we_var rfl (ro_i0 (ro_i (cmc (by apply Bd.mono; (repeat (first | assumption | exact Bd.lit 64 (by decide +kernel) | exact Bd.lit 2000 (by decide +kernel) | apply Bd.neg | apply Bd.fdiv | apply Bd.mul | apply Bd.add2 | apply Bd.sub2)); decide) (by apply Bd.mono; (repeat (first | assumption | exact Bd.lit 64 (by decide +kernel) | exact Bd.lit 2000 (by decide +kernel) | apply Bd.neg | apply Bd.fdiv | apply Bd.mul | apply Bd.add2 | apply Bd.sub2)); decide)) (wa_nil ⟨_, _, rfl, ?_⟩))))))))))))))))))
            exact ⟨⟨_, by show _ = stC _ _ _ _ (some (.int (partF _ _ _ (j + 1)))) (some (.int (belowF _ (j + 1)))) _; rw [partF, if_neg (ne_of_dec hc1), belowF, if_neg (ne_of_dec hc1)]; rfl⟩, rfl⟩
          · refine ws_next ?_
            exact ⟨⟨_, by show _ = stC _ _ _ _ (some (.int (partF _ _ _ (j + 1)))) (some (.int (belowF _ (j + 1)))) _; rw [partF, if_pos (eq_of_dec hc2), belowF, if_pos (eq_of_dec hc2)]; rfl⟩, rfl⟩
        · rw [List.length_map] at hI
          exact hI
      rintro _ _ ⟨⟨o6, rfl⟩, rfl⟩
      have nz : belowF (0 + (i : Int)) row.length ≠ 0 := below_nz i (by omega) _ hl
      have b1 : Bd 4000 (partF (row.getD i 0) a (0 + (i : Int)) row.length) := (part_bd (k := 0 + (i : Int)) bv ha _ hl).mono (by omega)
      have b2 : Bd 100 (belowF (0 + (i : Int)) row.length) := (below_bd i (by omega) _ hl).mono (by omega)
      refine (ws_set (we_op (we_var rfl (we_op (we_var rfl (we_op (we_int (we_var rfl (ro_i (dvg (by assumption) (by apply Bd.mono; (repeat (first | assumption | exact Bd.lit 64 (by decide +kernel) | exact Bd.lit 2000 (by decide +kernel) | apply Bd.neg | apply Bd.fdiv | apply Bd.mul | apply Bd.add2 | apply Bd.sub2)); decide)) (ro_i (cmc (by apply Bd.mono; (repeat (first | assumption | exact Bd.lit 64 (by decide +kernel) | exact Bd.lit 2000 (by decide +kernel) | apply Bd.neg | apply Bd.fdiv | apply Bd.mul | apply Bd.add2 | apply Bd.sub2)); decide) (by apply Bd.mono; (repeat (first | assumption | exact Bd.lit 64 (by decide +kernel) | exact Bd.lit 2000 (by decide +kernel) | apply Bd.neg | apply Bd.fdiv | apply Bd.mul | apply Bd.add2 | apply Bd.sub2)); decide)) (ro_i0 ?_)))))))))))
      exact ⟨⟨_, _, _, _, rfl⟩, rfl⟩
    · rw [List.length_map] at hI
      exact hI
  rintro _ _ ⟨⟨o3, o4, o5, o6, rfl⟩, rfl⟩
  refine (ws_ret (we_op (we_var rfl (we_int (ro_i ⟨by decide +kernel, by decide +kernel⟩ ?_)))))
  exact hk
end
end AW

set_option linter.all false
set_option maxRecDepth 100000
set_option maxHeartbeats 8000000
namespace AW
open PySem PySem.Spec PyProof.Rows L2
variable [Tbs]
theorem near_all : ((List.range 27).all fun n => decide (sphereF (n : Int) = reachedF (n : Int) - (if (n : Int) > 1 then reachedF ((n : Int) - 2) else 0)) && decide (withinF (n : Int) = reachedF (n : Int) + (if (n : Int) > 0 then reachedF ((n : Int) - 1) else 0))) = true := by decide +kernel
theorem late_all : ((List.range 4).all fun s => (List.range 4).all fun k => decide (sphereF (2 + (s : Int) + 12 * (k : Int)) = reachedF (2 + (s : Int) + 12 * (k : Int)) - reachedF ((s : Int) + 12 * (k : Int)))) = true := by decide +kernel
theorem near {n : Int} (h0 : 0 ≤ n) (h1 : n < 27) : sphereF n = reachedF n - (if n > 1 then reachedF (n - 2) else 0) ∧ withinF n = reachedF n + (if n > 0 then reachedF (n - 1) else 0) := by
  obtain ⟨m, rfl⟩ := Int.eq_ofNat_of_zero_le h0
  have h := List.all_eq_true.mp near_all m (List.mem_range.mpr (by omega))
  rw [Bool.and_eq_true] at h
  exact ⟨of_decide_eq_true h.1, of_decide_eq_true h.2⟩
theorem late {s k : Int} (h0 : 0 ≤ s) (h1 : s < 4) (k0 : 0 ≤ k) (k1 : k < 4) : sphereF (2 + s + 12 * k) = reachedF (2 + s + 12 * k) - reachedF (s + 12 * k) := by
  obtain ⟨m, rfl⟩ := Int.eq_ofNat_of_zero_le h0
  obtain ⟨j, rfl⟩ := Int.eq_ofNat_of_zero_le k0
  exact of_decide_eq_true (List.all_eq_true.mp (List.all_eq_true.mp late_all m (List.mem_range.mpr (by omega))) j (List.mem_range.mpr (by omega)))
theorem last_shift (f t : Int) : (f + 12 * t).fmod 12 = f.fmod 12 := by
  rw [Int.fmod_eq_emod_of_nonneg _ (by decide), Int.fmod_eq_emod_of_nonneg _ (by decide)]
  omega
theorem within_1 (t : Int) : withinF (1 + 12 * t) = (5) + (80) * (t) + (542) * (t * t) + (2640) * (t * t * t) + (8928) * (t * t * t * t) := by
  have e : numF (1 + 12 * t) = 72 * ((5) + (80) * (t) + (542) * (t * t) + (2640) * (t * t * t) + (8928) * (t * t * t * t)) := by
    unfold numF
    rw [last_shift, show lastF ((1 : Int).fmod 12) = 72 from by decide]
    grind
  unfold withinF
  rw [e, Int.mul_fdiv_cancel_left _ (by decide)]
theorem within_2 (t : Int) : withinF (2 + 12 * t) = (17) + (246) * (t) + (1574) * (t * t) + (5616) * (t * t * t) + (8928) * (t * t * t * t) := by
  have e : numF (2 + 12 * t) = 72 * ((17) + (246) * (t) + (1574) * (t * t) + (5616) * (t * t * t) + (8928) * (t * t * t * t)) := by
    unfold numF
    rw [last_shift, show lastF ((2 : Int).fmod 12) = 44 from by decide]
    grind
  unfold withinF
  rw [e, Int.mul_fdiv_cancel_left _ (by decide)]
theorem within_3 (t : Int) : withinF (3 + 12 * t) = (53) + (646) * (t) + (3350) * (t * t) + (8592) * (t * t * t) + (8928) * (t * t * t * t) := by
  have e : numF (3 + 12 * t) = 72 * ((53) + (646) * (t) + (3350) * (t * t) + (8592) * (t * t * t) + (8928) * (t * t * t * t)) := by
    unfold numF
    rw [last_shift, show lastF ((3 : Int).fmod 12) = 108 from by decide]
    grind
  unfold withinF
  rw [e, Int.mul_fdiv_cancel_left _ (by decide)]
theorem within_4 (t : Int) : withinF (4 + 12 * t) = (135) + (1404) * (t) + (5870) * (t * t) + (11568) * (t * t * t) + (8928) * (t * t * t * t) := by
  have e : numF (4 + 12 * t) = 72 * ((135) + (1404) * (t) + (5870) * (t * t) + (11568) * (t * t * t) + (8928) * (t * t * t * t)) := by
    unfold numF
    rw [last_shift, show lastF ((4 : Int).fmod 12) = 72 from by decide]
    grind
  unfold withinF
  rw [e, Int.mul_fdiv_cancel_left _ (by decide)]
theorem within_5 (t : Int) : withinF (5 + 12 * t) = (299) + (2644) * (t) + (9134) * (t * t) + (14544) * (t * t * t) + (8928) * (t * t * t * t) := by
  have e : numF (5 + 12 * t) = 72 * ((299) + (2644) * (t) + (9134) * (t * t) + (14544) * (t * t * t) + (8928) * (t * t * t * t)) := by
    unfold numF
    rw [last_shift, show lastF ((5 : Int).fmod 12) = 8 from by decide]
    grind
  unfold withinF
  rw [e, Int.mul_fdiv_cancel_left _ (by decide)]
theorem within_6 (t : Int) : withinF (6 + 12 * t) = (593) + (4490) * (t) + (13142) * (t * t) + (17520) * (t * t * t) + (8928) * (t * t * t * t) := by
  have e : numF (6 + 12 * t) = 72 * ((593) + (4490) * (t) + (13142) * (t * t) + (17520) * (t * t * t) + (8928) * (t * t * t * t)) := by
    unfold numF
    rw [last_shift, show lastF ((6 : Int).fmod 12) = 108 from by decide]
    grind
  unfold withinF
  rw [e, Int.mul_fdiv_cancel_left _ (by decide)]
theorem within_7 (t : Int) : withinF (7 + 12 * t) = (1069) + (7066) * (t) + (17894) * (t * t) + (20496) * (t * t * t) + (8928) * (t * t * t * t) := by
  have e : numF (7 + 12 * t) = 72 * ((1069) + (7066) * (t) + (17894) * (t * t) + (20496) * (t * t * t) + (8928) * (t * t * t * t)) := by
    unfold numF
    rw [last_shift, show lastF ((7 : Int).fmod 12) = 108 from by decide]
    grind
  unfold withinF
  rw [e, Int.mul_fdiv_cancel_left _ (by decide)]
theorem within_8 (t : Int) : withinF (8 + 12 * t) = (1793) + (10496) * (t) + (23390) * (t * t) + (23472) * (t * t * t) + (8928) * (t * t * t * t) := by
  have e : numF (8 + 12 * t) = 72 * ((1793) + (10496) * (t) + (23390) * (t * t) + (23472) * (t * t * t) + (8928) * (t * t * t * t)) := by
    unfold numF
    rw [last_shift, show lastF ((8 : Int).fmod 12) = 8 from by decide]
    grind
  unfold withinF
  rw [e, Int.mul_fdiv_cancel_left _ (by decide)]
theorem within_9 (t : Int) : withinF (9 + 12 * t) = (2845) + (14904) * (t) + (29630) * (t * t) + (26448) * (t * t * t) + (8928) * (t * t * t * t) := by
  have e : numF (9 + 12 * t) = 72 * ((2845) + (14904) * (t) + (29630) * (t * t) + (26448) * (t * t * t) + (8928) * (t * t * t * t)) := by
    unfold numF
    rw [last_shift, show lastF ((9 : Int).fmod 12) = 72 from by decide]
    grind
  unfold withinF
  rw [e, Int.mul_fdiv_cancel_left _ (by decide)]
theorem within_10 (t : Int) : withinF (10 + 12 * t) = (4309) + (20414) * (t) + (36614) * (t * t) + (29424) * (t * t * t) + (8928) * (t * t * t * t) := by
  have e : numF (10 + 12 * t) = 72 * ((4309) + (20414) * (t) + (36614) * (t * t) + (29424) * (t * t * t) + (8928) * (t * t * t * t)) := by
    unfold numF
    rw [last_shift, show lastF ((10 : Int).fmod 12) = 108 from by decide]
    grind
  unfold withinF
  rw [e, Int.mul_fdiv_cancel_left _ (by decide)]
theorem within_11 (t : Int) : withinF (11 + 12 * t) = (6281) + (27150) * (t) + (44342) * (t * t) + (32400) * (t * t * t) + (8928) * (t * t * t * t) := by
  have e : numF (11 + 12 * t) = 72 * ((6281) + (27150) * (t) + (44342) * (t * t) + (32400) * (t * t * t) + (8928) * (t * t * t * t)) := by
    unfold numF
    rw [last_shift, show lastF ((11 : Int).fmod 12) = 44 from by decide]
    grind
  unfold withinF
  rw [e, Int.mul_fdiv_cancel_left _ (by decide)]
theorem within_12 (t : Int) : withinF (12 + 12 * t) = (8871) + (35236) * (t) + (52814) * (t * t) + (35376) * (t * t * t) + (8928) * (t * t * t * t) := by
  have e : numF (12 + 12 * t) = 72 * ((8871) + (35236) * (t) + (52814) * (t * t) + (35376) * (t * t * t) + (8928) * (t * t * t * t)) := by
    unfold numF
    rw [last_shift, show lastF ((12 : Int).fmod 12) = 72 from by decide]
    grind
  unfold withinF
  rw [e, Int.mul_fdiv_cancel_left _ (by decide)]
theorem within_13 (t : Int) : withinF (13 + 12 * t) = (12195) + (44796) * (t) + (62030) * (t * t) + (38352) * (t * t * t) + (8928) * (t * t * t * t) := by
  have e : numF (13 + 12 * t) = 72 * ((12195) + (44796) * (t) + (62030) * (t * t) + (38352) * (t * t * t) + (8928) * (t * t * t * t)) := by
    unfold numF
    rw [last_shift, show lastF ((13 : Int).fmod 12) = 72 from by decide]
    grind
  unfold withinF
  rw [e, Int.mul_fdiv_cancel_left _ (by decide)]
theorem carried4 (a b c d t : Int) : carriedF [a, b, c, d] t = (a * (t - 1) * (t - 2) * (t - 3) * -120 + b * t * (t - 2) * (t - 3) * 360 + c * t * (t - 1) * (t - 3) * -360 + d * t * (t - 1) * (t - 2) * 120).fdiv 720 := by
  have h : totalF [a, b, c, d] t 4 = a * (t - 1) * (t - 2) * (t - 3) * -120 + b * t * (t - 2) * (t - 3) * 360 + c * t * (t - 1) * (t - 3) * -360 + d * t * (t - 1) * (t - 2) * 120 := by simp [totalF, partF, belowF]
  show (totalF [a, b, c, d] t 4).fdiv 720 = _
  rw [h]
theorem carried5 (a b c d f t : Int) : carriedF [a, b, c, d, f] t = (a * (t - 1) * (t - 2) * (t - 3) * (t - 4) * 30 + b * t * (t - 2) * (t - 3) * (t - 4) * -120 + c * t * (t - 1) * (t - 3) * (t - 4) * 180 + d * t * (t - 1) * (t - 2) * (t - 4) * -120 + f * t * (t - 1) * (t - 2) * (t - 3) * 30).fdiv 720 := by
  have h : totalF [a, b, c, d, f] t 5 = a * (t - 1) * (t - 2) * (t - 3) * (t - 4) * 30 + b * t * (t - 2) * (t - 3) * (t - 4) * -120 + c * t * (t - 1) * (t - 3) * (t - 4) * 180 + d * t * (t - 1) * (t - 2) * (t - 4) * -120 + f * t * (t - 1) * (t - 2) * (t - 3) * 30 := by simp [totalF, partF, belowF]
  show (totalF [a, b, c, d, f] t 5).fdiv 720 = _
  rw [h]
theorem fdiv720 {x y : Int} (h : x = 720 * y) : x.fdiv 720 = y := by rw [h, Int.mul_fdiv_cancel_left _ (by decide)]
theorem sphere_ge {n : Int} (h : 2 ≤ n) : sphereF n = withinF n - withinF (n - 1) := if_neg (by omega)
theorem ballc_2 (t : Int) : withinF (2 + 12 * t) = carriedF [withinF (2 + 12 * 0), withinF (2 + 12 * 1), withinF (2 + 12 * 2), withinF (2 + 12 * 3), withinF (2 + 12 * 4)] t := by
  rw [carried5, within_2, within_2, within_2, within_2, within_2, within_2]
  exact (fdiv720 (by grind)).symm
theorem sph_2 {t : Int} (h : 0 ≤ t) : sphereF (2 + 12 * t) = withinF (2 + 12 * t) - withinF (1 + 12 * t) := by
  rw [sphere_ge (by omega), show (2 : Int) + 12 * t - 1 = 1 + 12 * t from by omega]
theorem sphc_2 {t : Int} (h : 0 ≤ t) : sphereF (2 + 12 * t) = carriedF [sphereF (2 + 12 * 0), sphereF (2 + 12 * 1), sphereF (2 + 12 * 2), sphereF (2 + 12 * 3)] t := by
  rw [carried4, sph_2 h, sph_2 (t := 0) (by decide), sph_2 (t := 1) (by decide), sph_2 (t := 2) (by decide), sph_2 (t := 3) (by decide), within_2, within_1, within_2, within_1, within_2, within_1, within_2, within_1, within_2, within_1]
  exact (fdiv720 (by grind)).symm
theorem ballc_3 (t : Int) : withinF (3 + 12 * t) = carriedF [withinF (3 + 12 * 0), withinF (3 + 12 * 1), withinF (3 + 12 * 2), withinF (3 + 12 * 3), withinF (3 + 12 * 4)] t := by
  rw [carried5, within_3, within_3, within_3, within_3, within_3, within_3]
  exact (fdiv720 (by grind)).symm
theorem sph_3 {t : Int} (h : 0 ≤ t) : sphereF (3 + 12 * t) = withinF (3 + 12 * t) - withinF (2 + 12 * t) := by
  rw [sphere_ge (by omega), show (3 : Int) + 12 * t - 1 = 2 + 12 * t from by omega]
theorem sphc_3 {t : Int} (h : 0 ≤ t) : sphereF (3 + 12 * t) = carriedF [sphereF (3 + 12 * 0), sphereF (3 + 12 * 1), sphereF (3 + 12 * 2), sphereF (3 + 12 * 3)] t := by
  rw [carried4, sph_3 h, sph_3 (t := 0) (by decide), sph_3 (t := 1) (by decide), sph_3 (t := 2) (by decide), sph_3 (t := 3) (by decide), within_3, within_2, within_3, within_2, within_3, within_2, within_3, within_2, within_3, within_2]
  exact (fdiv720 (by grind)).symm
theorem ballc_4 (t : Int) : withinF (4 + 12 * t) = carriedF [withinF (4 + 12 * 0), withinF (4 + 12 * 1), withinF (4 + 12 * 2), withinF (4 + 12 * 3), withinF (4 + 12 * 4)] t := by
  rw [carried5, within_4, within_4, within_4, within_4, within_4, within_4]
  exact (fdiv720 (by grind)).symm
theorem sph_4 {t : Int} (h : 0 ≤ t) : sphereF (4 + 12 * t) = withinF (4 + 12 * t) - withinF (3 + 12 * t) := by
  rw [sphere_ge (by omega), show (4 : Int) + 12 * t - 1 = 3 + 12 * t from by omega]
theorem sphc_4 {t : Int} (h : 0 ≤ t) : sphereF (4 + 12 * t) = carriedF [sphereF (4 + 12 * 0), sphereF (4 + 12 * 1), sphereF (4 + 12 * 2), sphereF (4 + 12 * 3)] t := by
  rw [carried4, sph_4 h, sph_4 (t := 0) (by decide), sph_4 (t := 1) (by decide), sph_4 (t := 2) (by decide), sph_4 (t := 3) (by decide), within_4, within_3, within_4, within_3, within_4, within_3, within_4, within_3, within_4, within_3]
  exact (fdiv720 (by grind)).symm
theorem ballc_5 (t : Int) : withinF (5 + 12 * t) = carriedF [withinF (5 + 12 * 0), withinF (5 + 12 * 1), withinF (5 + 12 * 2), withinF (5 + 12 * 3), withinF (5 + 12 * 4)] t := by
  rw [carried5, within_5, within_5, within_5, within_5, within_5, within_5]
  exact (fdiv720 (by grind)).symm
theorem sph_5 {t : Int} (h : 0 ≤ t) : sphereF (5 + 12 * t) = withinF (5 + 12 * t) - withinF (4 + 12 * t) := by
  rw [sphere_ge (by omega), show (5 : Int) + 12 * t - 1 = 4 + 12 * t from by omega]
theorem sphc_5 {t : Int} (h : 0 ≤ t) : sphereF (5 + 12 * t) = carriedF [sphereF (5 + 12 * 0), sphereF (5 + 12 * 1), sphereF (5 + 12 * 2), sphereF (5 + 12 * 3)] t := by
  rw [carried4, sph_5 h, sph_5 (t := 0) (by decide), sph_5 (t := 1) (by decide), sph_5 (t := 2) (by decide), sph_5 (t := 3) (by decide), within_5, within_4, within_5, within_4, within_5, within_4, within_5, within_4, within_5, within_4]
  exact (fdiv720 (by grind)).symm
theorem ballc_6 (t : Int) : withinF (6 + 12 * t) = carriedF [withinF (6 + 12 * 0), withinF (6 + 12 * 1), withinF (6 + 12 * 2), withinF (6 + 12 * 3), withinF (6 + 12 * 4)] t := by
  rw [carried5, within_6, within_6, within_6, within_6, within_6, within_6]
  exact (fdiv720 (by grind)).symm
theorem sph_6 {t : Int} (h : 0 ≤ t) : sphereF (6 + 12 * t) = withinF (6 + 12 * t) - withinF (5 + 12 * t) := by
  rw [sphere_ge (by omega), show (6 : Int) + 12 * t - 1 = 5 + 12 * t from by omega]
theorem sphc_6 {t : Int} (h : 0 ≤ t) : sphereF (6 + 12 * t) = carriedF [sphereF (6 + 12 * 0), sphereF (6 + 12 * 1), sphereF (6 + 12 * 2), sphereF (6 + 12 * 3)] t := by
  rw [carried4, sph_6 h, sph_6 (t := 0) (by decide), sph_6 (t := 1) (by decide), sph_6 (t := 2) (by decide), sph_6 (t := 3) (by decide), within_6, within_5, within_6, within_5, within_6, within_5, within_6, within_5, within_6, within_5]
  exact (fdiv720 (by grind)).symm
theorem ballc_7 (t : Int) : withinF (7 + 12 * t) = carriedF [withinF (7 + 12 * 0), withinF (7 + 12 * 1), withinF (7 + 12 * 2), withinF (7 + 12 * 3), withinF (7 + 12 * 4)] t := by
  rw [carried5, within_7, within_7, within_7, within_7, within_7, within_7]
  exact (fdiv720 (by grind)).symm
theorem sph_7 {t : Int} (h : 0 ≤ t) : sphereF (7 + 12 * t) = withinF (7 + 12 * t) - withinF (6 + 12 * t) := by
  rw [sphere_ge (by omega), show (7 : Int) + 12 * t - 1 = 6 + 12 * t from by omega]
theorem sphc_7 {t : Int} (h : 0 ≤ t) : sphereF (7 + 12 * t) = carriedF [sphereF (7 + 12 * 0), sphereF (7 + 12 * 1), sphereF (7 + 12 * 2), sphereF (7 + 12 * 3)] t := by
  rw [carried4, sph_7 h, sph_7 (t := 0) (by decide), sph_7 (t := 1) (by decide), sph_7 (t := 2) (by decide), sph_7 (t := 3) (by decide), within_7, within_6, within_7, within_6, within_7, within_6, within_7, within_6, within_7, within_6]
  exact (fdiv720 (by grind)).symm
theorem ballc_8 (t : Int) : withinF (8 + 12 * t) = carriedF [withinF (8 + 12 * 0), withinF (8 + 12 * 1), withinF (8 + 12 * 2), withinF (8 + 12 * 3), withinF (8 + 12 * 4)] t := by
  rw [carried5, within_8, within_8, within_8, within_8, within_8, within_8]
  exact (fdiv720 (by grind)).symm
theorem sph_8 {t : Int} (h : 0 ≤ t) : sphereF (8 + 12 * t) = withinF (8 + 12 * t) - withinF (7 + 12 * t) := by
  rw [sphere_ge (by omega), show (8 : Int) + 12 * t - 1 = 7 + 12 * t from by omega]
theorem sphc_8 {t : Int} (h : 0 ≤ t) : sphereF (8 + 12 * t) = carriedF [sphereF (8 + 12 * 0), sphereF (8 + 12 * 1), sphereF (8 + 12 * 2), sphereF (8 + 12 * 3)] t := by
  rw [carried4, sph_8 h, sph_8 (t := 0) (by decide), sph_8 (t := 1) (by decide), sph_8 (t := 2) (by decide), sph_8 (t := 3) (by decide), within_8, within_7, within_8, within_7, within_8, within_7, within_8, within_7, within_8, within_7]
  exact (fdiv720 (by grind)).symm
theorem ballc_9 (t : Int) : withinF (9 + 12 * t) = carriedF [withinF (9 + 12 * 0), withinF (9 + 12 * 1), withinF (9 + 12 * 2), withinF (9 + 12 * 3), withinF (9 + 12 * 4)] t := by
  rw [carried5, within_9, within_9, within_9, within_9, within_9, within_9]
  exact (fdiv720 (by grind)).symm
theorem sph_9 {t : Int} (h : 0 ≤ t) : sphereF (9 + 12 * t) = withinF (9 + 12 * t) - withinF (8 + 12 * t) := by
  rw [sphere_ge (by omega), show (9 : Int) + 12 * t - 1 = 8 + 12 * t from by omega]
theorem sphc_9 {t : Int} (h : 0 ≤ t) : sphereF (9 + 12 * t) = carriedF [sphereF (9 + 12 * 0), sphereF (9 + 12 * 1), sphereF (9 + 12 * 2), sphereF (9 + 12 * 3)] t := by
  rw [carried4, sph_9 h, sph_9 (t := 0) (by decide), sph_9 (t := 1) (by decide), sph_9 (t := 2) (by decide), sph_9 (t := 3) (by decide), within_9, within_8, within_9, within_8, within_9, within_8, within_9, within_8, within_9, within_8]
  exact (fdiv720 (by grind)).symm
theorem ballc_10 (t : Int) : withinF (10 + 12 * t) = carriedF [withinF (10 + 12 * 0), withinF (10 + 12 * 1), withinF (10 + 12 * 2), withinF (10 + 12 * 3), withinF (10 + 12 * 4)] t := by
  rw [carried5, within_10, within_10, within_10, within_10, within_10, within_10]
  exact (fdiv720 (by grind)).symm
theorem sph_10 {t : Int} (h : 0 ≤ t) : sphereF (10 + 12 * t) = withinF (10 + 12 * t) - withinF (9 + 12 * t) := by
  rw [sphere_ge (by omega), show (10 : Int) + 12 * t - 1 = 9 + 12 * t from by omega]
theorem sphc_10 {t : Int} (h : 0 ≤ t) : sphereF (10 + 12 * t) = carriedF [sphereF (10 + 12 * 0), sphereF (10 + 12 * 1), sphereF (10 + 12 * 2), sphereF (10 + 12 * 3)] t := by
  rw [carried4, sph_10 h, sph_10 (t := 0) (by decide), sph_10 (t := 1) (by decide), sph_10 (t := 2) (by decide), sph_10 (t := 3) (by decide), within_10, within_9, within_10, within_9, within_10, within_9, within_10, within_9, within_10, within_9]
  exact (fdiv720 (by grind)).symm
theorem ballc_11 (t : Int) : withinF (11 + 12 * t) = carriedF [withinF (11 + 12 * 0), withinF (11 + 12 * 1), withinF (11 + 12 * 2), withinF (11 + 12 * 3), withinF (11 + 12 * 4)] t := by
  rw [carried5, within_11, within_11, within_11, within_11, within_11, within_11]
  exact (fdiv720 (by grind)).symm
theorem sph_11 {t : Int} (h : 0 ≤ t) : sphereF (11 + 12 * t) = withinF (11 + 12 * t) - withinF (10 + 12 * t) := by
  rw [sphere_ge (by omega), show (11 : Int) + 12 * t - 1 = 10 + 12 * t from by omega]
theorem sphc_11 {t : Int} (h : 0 ≤ t) : sphereF (11 + 12 * t) = carriedF [sphereF (11 + 12 * 0), sphereF (11 + 12 * 1), sphereF (11 + 12 * 2), sphereF (11 + 12 * 3)] t := by
  rw [carried4, sph_11 h, sph_11 (t := 0) (by decide), sph_11 (t := 1) (by decide), sph_11 (t := 2) (by decide), sph_11 (t := 3) (by decide), within_11, within_10, within_11, within_10, within_11, within_10, within_11, within_10, within_11, within_10]
  exact (fdiv720 (by grind)).symm
theorem ballc_12 (t : Int) : withinF (12 + 12 * t) = carriedF [withinF (12 + 12 * 0), withinF (12 + 12 * 1), withinF (12 + 12 * 2), withinF (12 + 12 * 3), withinF (12 + 12 * 4)] t := by
  rw [carried5, within_12, within_12, within_12, within_12, within_12, within_12]
  exact (fdiv720 (by grind)).symm
theorem sph_12 {t : Int} (h : 0 ≤ t) : sphereF (12 + 12 * t) = withinF (12 + 12 * t) - withinF (11 + 12 * t) := by
  rw [sphere_ge (by omega), show (12 : Int) + 12 * t - 1 = 11 + 12 * t from by omega]
theorem sphc_12 {t : Int} (h : 0 ≤ t) : sphereF (12 + 12 * t) = carriedF [sphereF (12 + 12 * 0), sphereF (12 + 12 * 1), sphereF (12 + 12 * 2), sphereF (12 + 12 * 3)] t := by
  rw [carried4, sph_12 h, sph_12 (t := 0) (by decide), sph_12 (t := 1) (by decide), sph_12 (t := 2) (by decide), sph_12 (t := 3) (by decide), within_12, within_11, within_12, within_11, within_12, within_11, within_12, within_11, within_12, within_11]
  exact (fdiv720 (by grind)).symm
theorem ballc_13 (t : Int) : withinF (13 + 12 * t) = carriedF [withinF (13 + 12 * 0), withinF (13 + 12 * 1), withinF (13 + 12 * 2), withinF (13 + 12 * 3), withinF (13 + 12 * 4)] t := by
  rw [carried5, within_13, within_13, within_13, within_13, within_13, within_13]
  exact (fdiv720 (by grind)).symm
theorem sph_13 {t : Int} (h : 0 ≤ t) : sphereF (13 + 12 * t) = withinF (13 + 12 * t) - withinF (12 + 12 * t) := by
  rw [sphere_ge (by omega), show (13 : Int) + 12 * t - 1 = 12 + 12 * t from by omega]
theorem sphc_13 {t : Int} (h : 0 ≤ t) : sphereF (13 + 12 * t) = carriedF [sphereF (13 + 12 * 0), sphereF (13 + 12 * 1), sphereF (13 + 12 * 2), sphereF (13 + 12 * 3)] t := by
  rw [carried4, sph_13 h, sph_13 (t := 0) (by decide), sph_13 (t := 1) (by decide), sph_13 (t := 2) (by decide), sph_13 (t := 3) (by decide), within_13, within_12, within_13, within_12, within_13, within_12, within_13, within_12, within_13, within_12]
  exact (fdiv720 (by grind)).symm
theorem carried_all {f t : Int} (f0 : 2 ≤ f) (f1 : f < 14) (h : 0 ≤ t) : sphereF (f + 12 * t) = carriedF [sphereF (f + 12 * 0), sphereF (f + 12 * 1), sphereF (f + 12 * 2), sphereF (f + 12 * 3)] t ∧
    withinF (f + 12 * t) = carriedF [withinF (f + 12 * 0), withinF (f + 12 * 1), withinF (f + 12 * 2), withinF (f + 12 * 3), withinF (f + 12 * 4)] t := by
  have z : f = 2 ∨ f = 3 ∨ f = 4 ∨ f = 5 ∨ f = 6 ∨ f = 7 ∨ f = 8 ∨ f = 9 ∨ f = 10 ∨ f = 11 ∨ f = 12 ∨ f = 13 := by omega
  rcases z with rfl | rfl | rfl | rfl | rfl | rfl | rfl | rfl | rfl | rfl | rfl | rfl
  · exact ⟨sphc_2 h, ballc_2 t⟩
  · exact ⟨sphc_3 h, ballc_3 t⟩
  · exact ⟨sphc_4 h, ballc_4 t⟩
  · exact ⟨sphc_5 h, ballc_5 t⟩
  · exact ⟨sphc_6 h, ballc_6 t⟩
  · exact ⟨sphc_7 h, ballc_7 t⟩
  · exact ⟨sphc_8 h, ballc_8 t⟩
  · exact ⟨sphc_9 h, ballc_9 t⟩
  · exact ⟨sphc_10 h, ballc_10 t⟩
  · exact ⟨sphc_11 h, ballc_11 t⟩
  · exact ⟨sphc_12 h, ballc_12 t⟩
  · exact ⟨sphc_13 h, ballc_13 t⟩
end AW

set_option linter.all false
set_option maxRecDepth 100000
set_option maxHeartbeats 8000000
namespace AW
open PySem PySem.Spec PyProof.Rows L2 LamX
variable [Tbs]
section
variable {P : Program} {w : World} {K : PySem.W.Frag} {mg : Str → Option Value} {base : Heap}

/-- the error that came, told: a new tuple -/
def Told (H : Hp) (Q : VK) (x : Str) (v : V) : Prop := ∀ t, H t = none → Q (.ref t) (upd H t (.tup [.str x, v]))
def TTl_refused (T : Tx K mg) : (XK → Hp → VK → Prop) → Hp → VK → Prop := fun tl H Q =>
  tl (fun cls d H' => cls = .ref T.C_BadNumber ∧ ∃ dd v, d = some dd ∧ H' dd = some (.xd [("value", v)]) ∧ Told H' Q "number" v) H (fun _ H' => Q .non H')
def eRef (T : Tx K mg) (k : KD) : EW := fun C f B => C = T.C_BadNumber ∧ ∃ d, f = some ((["value"] : List Str), [d]) ∧ k (.tup [.str "number", d]) B
theorem tt_ref (T : Tx K mg) : TTok K (TTl_refused T) (eRef T) (fun k _ B => k .non B) := ⟨fun tl k G H B Q s kq h => by
  refine h _ _ (fun C f B' G' H' hw ex => ?_) (fun d v B' G' H' hk ex _ => kq .non _ _ _ _ hk ex rfl)
  obtain ⟨rfl, d, rfl, hk⟩ := hw
  intro dx vs hd hl hr
  obtain ⟨v, _, rfl, rv, rfl⟩ := hr
  refine ⟨rfl, dx, v, rfl, hd, fun t nt => kq _ _ _ _ _ hk (ex.trans (Ext.new (B := B') ex.sub nt)) ?_⟩
  exact ⟨t, _, rfl, SqT.of upd_same, _, _, rfl, rfl, _, _, rfl, rv.mono (Ext.new (B := B') ex.sub nt).le, rfl⟩⟩
theorem takes_len {X : Cx} {W : WX} (tk : Takes X W) : Takes X (fun cls d σ H => σ.length = X.N.length → W cls d σ H) := fun u s' ⟨a, B, sI, pins, σ, H, cls, d, e, I, nb, up, sky, na, os, ag, w⟩ =>
  tk u s' ⟨a, B, sI, pins, σ, H, cls, d, e, I, nb, up, sky, na, os, ag, w I.len⟩
theorem l_refused_gives (T : Tx K mg) {X : Cx} (hK : X.K = K) (hmg : X.mg = mg) {cdg : Value} {q : Str} {mk : Addr → Addr → HO} :
    GivesK X N_l_refused "_law_refused" (defScope s_l_refused) T.a_l_refused cdg (defBody s_l_refused) "_law_deed" q mk (TTl_refused T) := by
  subst hK
  subst hmg
  intro f c' s H Q tl act hf hc h
  refine ⟨_, pss_one (ps_try_manyA (X := (cxOf C8.CX0 X.prog X.w X.K X.mg X.base N_l_refused "_law_refused" (defScope s_l_refused) T.a_l_refused cdg X.A X.stack s H C8.E0).nox)
      (tb := fun W D σ H => ∃ Ech : XK, (∀ cls d σ' H', Ech cls d H' → σ'.length = 2 → W cls d σ' H') ∧ σ[0]? = some (some (.ref f)) ∧ H f = some (mk f c') ∧ H c' = some (CodeO c' q) ∧ tl Ech H (fun _ H' => D.nx σ H'))
      (l := [(.ref T.C_BadNumber, 1, fun a cls d => tRet (tTup (tCons (tC (.str "number")) (tCons (tXf a cls d T.C_BadNumber "value" (tVar 1)) tNil))))])
      rfl rfl sc_l_refused.nd L2.takes0 (fun W pn xe tk _ => ?_)
      (.cons rfl rfl ⟨rfl, by decide, .inl T.g_C_BadNumber⟩ (fun a oe cls d pn hz hf => pss_one (ps_ret (pe_tup (pa_cons pe_str (pa_cons (pe_xf T.Y_BadNumber T.na_BadNumber_value hz hf (pv 1)) pa_nil))))) .nil)), ?_⟩
  · refine ⟨fun pins s' σ H' D I h' => ?_⟩
    obtain ⟨Ech, hW, h1, h2, h3, h4⟩ := h'
    have hp := fun p1 p2 => act _ pn xe Ech p1 p2 (takes_len tk) hW
    exact (pss_one (ps_expr (hp _ _))).run pins s' σ H' D I ⟨h1, h2, h3, h4⟩
  · have get1 : ∀ (σ' : L2.St) (a : Addr), σ'.length = 2 → (σ'.set 1 (some (V.ref a)))[1]? = some (some (V.ref a)) := fun σ' a hl => by
      rw [List.getElem?_set_self (by omega)]
    refine ⟨fun cls d H' => cls = .ref T.C_BadNumber ∧ ∃ dd v, d = some dd ∧ H' dd = some (.xd [("value", v)]) ∧ Told H' Q "number" v, ?_, rfl, hf, hc, h⟩
    rintro cls d σ' H' ⟨rfl, dd, v, rfl, hd, k⟩ hl
    refine ⟨true, T.em_BadNumber_BadNumber, fun _ a na => ?_, fun z => nomatch z⟩
    refine ⟨_, get1 σ' a hl, rfl, rfl, dd, _, v, rfl, hd, by simp [List.lookup], (by show 2 ≤ sizeLine; decide), fun t nt => ?_⟩
    exact k t nt
end
end AW

set_option linter.all false
set_option maxRecDepth 100000
set_option maxHeartbeats 8000000
namespace AW
open PySem PySem.Spec PyProof.Rows L2
variable [Tbs]
theorem bd_e6 {d : Int} (h0 : 0 ≤ d) (h : d < (10 : Int) ^ (6 : Int).toNat) : Bd 302 d := by
  have e6 : (10 : Int) ^ (6 : Int).toNat = 1000000 := by decide
  rw [e6] at h
  exact Bd.mono (k := 30) (by unfold Bd; omega) (by decide)
theorem sphere_pos {m : Int} (h : 0 ≤ m) : sphereF (m + 1) = withinF (m + 1) - withinF m := by
  have e : sphereF (m + 1) = withinF (m + 1) - withinF (m + 1 - 1) := if_neg (by omega)
  rw [e, show m + 1 - 1 = m from by omega]
theorem bd_all : ((List.range 70).all fun n => decide ((sphereF (n : Int)).natAbs < 2 ^ 64) && decide ((withinF (n : Int)).natAbs < 2 ^ 64)) = true := by decide +kernel
theorem bd_sw {n : Int} (h0 : 0 ≤ n) (h1 : n < 70) : Bd 1500 (sphereF n) ∧ Bd 1500 (withinF n) := by
  obtain ⟨m, rfl⟩ := Int.eq_ofNat_of_zero_le h0
  have h := List.all_eq_true.mp bd_all m (List.mem_range.mpr (by omega))
  rw [Bool.and_eq_true] at h
  have h1 : (sphereF (m : Int)).natAbs < 2 ^ 64 := of_decide_eq_true h.1
  have h2 : (withinF (m : Int)).natAbs < 2 ^ 64 := of_decide_eq_true h.2
  exact ⟨Bd.mono (k := 64) h1 (by decide), Bd.mono (k := 64) h2 (by decide)⟩
theorem row_bd4 {fi : Int} (h0 : 2 ≤ fi) (h1 : fi < 14) : ∀ v ∈ [sphereF (fi + 12 * 0), sphereF (fi + 12 * 1), sphereF (fi + 12 * 2), sphereF (fi + 12 * 3)], Bd 1500 v := by
  intro v hv
  simp only [List.mem_cons, List.not_mem_nil, or_false] at hv
  rcases hv with rfl | rfl | rfl | rfl <;> exact (bd_sw (by omega) (by omega)).1
theorem row_bd5 {fi : Int} (h0 : 2 ≤ fi) (h1 : fi < 14) : ∀ v ∈ [withinF (fi + 12 * 0), withinF (fi + 12 * 1), withinF (fi + 12 * 2), withinF (fi + 12 * 3), withinF (fi + 12 * 4)], Bd 1500 v := by
  intro v hv
  simp only [List.mem_cons, List.not_mem_nil, or_false] at hv
  rcases hv with rfl | rfl | rfl | rfl | rfl <;> exact (bd_sw (by omega) (by omega)).2
theorem tcd (d : D) (h : (!PyData.eqv (py d) (py d)) = true) : False := by
  rw [eqv_self] at h; exact nomatch h
section
variable {P : Program} {w : World} {K : PySem.W.Frag} {mg : Str → Option Value} {base : Heap}
abbrev lamQ_law : Str := (envOfC "law" (defScope s_law) 0 0 .none).qual ++ "<lambda>"
def tabs1 (T : Tx K mg) : List (Addr × Str) := [(T.pt_law, lamQ_law)]
theorem tabs1_law (T : Tx K mg) : ∀ p ∈ tabs1 T, p.1 = T.pt_law → p.2 = lamQ_law := fun p hp _ => by
  rw [List.mem_singleton.mp hp]
def pr_law (T : Tx K mg) : Pr := fun ds B k e => ∃ ns : List Int, ds = [.scr ns] ∧ ns.length ≤ 63 ∧ B = 0 ∧ ∀ B', k (.bl true) B'
def LoopI (ns : List Int) (i : Nat) : KE' := fun ρ' B' => (∃ o2 o3 o4 o5 o6 o7 o8 o9 o10 o11, ρ' = [some (.scr ns), some penF, o2, o3, o4, o5, o6, o7, o8, o9, o10, o11]) ∧ B' ≤ 100 * i
theorem okD_law (T : Tx K mg) (TB : LamX.TabB base mg T.cc_law T.pt_law) (hT : Tbs.T = tabs1 T) : FnOk P w K mg base (L2.CX P w) 9 T.a_law T.d_law P_law (spD K (pr_law T)) := by
  refine T.FC_law.okX sc_law (spD_len fun ds B k e h => by obtain ⟨ns, rfl, hl, rfl, hk⟩ := h; rfl) (fun A outer s H vs Q E hr h => ?_)
  have hmT : (T.pt_law, lamQ_law) ∈ (Tbs.T : List (Addr × Str)) := by rw [hT]; unfold tabs1; simp
  have huT : ∀ p ∈ (Tbs.T : List (Addr × Str)), p.1 = T.pt_law → p.2 = lamQ_law := by rw [hT]; exact tabs1_law T
  obtain ⟨oc_l_refused, od_l_refused, kV_l_refused, dc_l_refused, pm_l_refused, an_l_refused, cdv_l_refused, ct_l_refused, osl_l_refused, e_l_refused, lk_l_refused, cd_l_refused⟩ := T.F_l_refused.ex
  have bd_l_refused : Binds K T.d_l_refused P_l_refused [] := T.b_l_refused
  rw [e_l_refused] at lk_l_refused bd_l_refused
  have G_ball : FnOk P w K mg base (L2.CX P w) 5 _ _ _ _ := okD_ball T
  have G_l_carried : FnOk P w K mg base (L2.CX P w) 1 _ _ _ _ := okD_l_carried T
  have G_l_draw : FnOk P w K mg base (L2.CX P w) 1 _ _ _ _ := okD_l_draw T
  have G_l_great : FnOk P w K mg base (L2.CX P w) 3 _ _ _ _ := okD_l_great T
  have G_l_pen : FnOk P w K mg base (L2.CX P w) 1 _ _ _ _ := okD_l_pen T
  have G_l_pick : FnOk P w K mg base (L2.CX P w) 2 _ _ _ _ := okD_l_pick T
  have G_l_reached : FnOk P w K mg base (L2.CX P w) 1 _ _ _ _ := okD_l_reached T
  have G_sphere : FnOk P w K mg base (L2.CX P w) 5 _ _ _ _ := okD_sphere T
  obtain ⟨G, ds, B, k, e, hs, hR, ⟨ns, rfl, hl, rfl, hk⟩, hK, hX⟩ := h
  refine ⟨_, (pss_cons (ps_set (i := 1) sc_law.nd rfl (.inl rfl) (pe_call G_l_pen (hr.mono (by decide)) (by rfl) T.g_l_pen T.F_l_pen.kp T.b_l_pen .nil passL (pa_cons (pv 0) pa_nil)))
 (pss_cons (ps_for (passes_of rfl) rfl (pi_range1 (by rfl) T.n_range (pa_cons (pe_op op_add pe_int (pe_callB (call_min2 rfl) (by rfl) T.n_min (by decide +kernel) (pa_cons pe_int (pa_cons (pe_callB call_len_seq (by rfl) T.n_len (by decide +kernel) (pa_cons (pv 0) pa_nil)) pa_nil)))) pa_nil)) (pg_name (i := 2) sc_law.nd rfl (.inl rfl))
 (pss_cons (ps_set (i := 3) sc_law.nd rfl (.inl rfl) (pe_call G_l_draw (hr.mono (by decide)) (by rfl) T.g_l_draw T.F_l_draw.kp T.b_l_draw .nil passL (pa_cons (pv 1) (pa_cons pe_int pa_nil))))
 (pss_cons (ps_set (i := 4) sc_law.nd rfl (.inl rfl) (pe_ifExp (pt_cmpR op_gt (pv 3) pe_int (nomark _)) (pe_call G_l_reached (hr.mono (by decide)) (by rfl) T.g_l_reached T.F_l_reached.kp T.b_l_reached .nil passL (pa_cons (pe_op op_sub (pv 3) pe_int) pa_nil)) pe_int))
 (pss_cons (ps_set (i := 5) sc_law.nd rfl (.inl rfl) (pe_call G_l_reached (hr.mono (by decide)) (by rfl) T.g_l_reached T.F_l_reached.kp T.b_l_reached .nil passL (pa_cons (pv 3) pa_nil)))
 (pss_cons (ps_if (PW.pt (pw_or (pt_cmpR op_ne (pe_call G_sphere (hr.mono (by decide)) (by rfl) T.g_sphere T.F_sphere.kp T.b_sphere .nil passL (pa_cons (pv 3) pa_nil)) (pe_op op_sub (pv 5) (pv 4)) (nomark _)) (pw_or1 (pt_val (pe_callB call_isi (by rfl) T.n_isinstance (by decide +kernel) (pa_cons (pe_call G_sphere (hr.mono (by decide)) (by rfl) T.g_sphere T.F_sphere.kp T.b_sphere .nil passL (pa_cons (pv 3) pa_nil)) (pa_cons (pe_bltn (v := .ty "bool") (by rfl) T.n_bool (by decide +kernel) rfl) pa_nil)))))))
 (pss_one (ps_ret pe_bl))
 pss_nil)
 (pss_cons (ps_if (pt_cmpR op_ne (pe_call G_ball (hr.mono (by decide)) (by rfl) T.g_ball T.F_ball.kp T.b_ball .nil passL (pa_cons (pv 3) pa_nil)) (pe_op op_add (pv 5) (pe_ifExp (pt_cmpR op_gt (pv 3) pe_int (nomark _)) (pe_call G_l_reached (hr.mono (by decide)) (by rfl) T.g_l_reached T.F_l_reached.kp T.b_l_reached .nil passL (pa_cons (pe_op op_sub (pv 3) pe_int) pa_nil)) pe_int)) (nomark _))
 (pss_one (ps_ret pe_bl))
 pss_nil)
 (pss_cons (ps_set (i := 6) sc_law.nd rfl (.inl rfl) (pe_call G_l_pick (hr.mono (by decide)) (by rfl) T.g_l_pick T.F_l_pick.kp T.b_l_pick .nil passL (pa_cons (pv 1) (pa_cons (pe_lst (pa_cons (pe_call G_l_draw (hr.mono (by decide)) (by rfl) T.g_l_draw T.F_l_draw.kp T.b_l_draw .nil passL (pa_cons (pv 1) (pa_cons (pe_op op_pow pe_int pe_int) pa_nil))) (pa_cons (pe_call G_l_great (hr.mono (by decide)) (by rfl) T.g_l_great T.F_l_great.kp T.b_l_great .nil passL (pa_cons (pv 1) (pa_cons pe_int pa_nil))) (pa_cons (pe_op op_pow pe_int pe_int) pa_nil)))) pa_nil))))
 (pss_cons (ps_if (pt_cmpR op_ne (pe_call G_ball (hr.mono (by decide)) (by rfl) T.g_ball T.F_ball.kp T.b_ball .nil passL (pa_cons (pe_op op_add (pv 6) pe_int) pa_nil)) (pe_op op_add (pe_call G_ball (hr.mono (by decide)) (by rfl) T.g_ball T.F_ball.kp T.b_ball .nil passL (pa_cons (pv 6) pa_nil)) (pe_call G_sphere (hr.mono (by decide)) (by rfl) T.g_sphere T.F_sphere.kp T.b_sphere .nil passL (pa_cons (pe_op op_add (pv 6) pe_int) pa_nil))) (nomark _))
 (pss_one (ps_ret pe_bl))
 pss_nil)
 (pss_cons (ps_asg (pe_tup (pa_cons (pe_op op_add pe_int (pe_op op_modN (pe_callTy call_int1 (by rfl) T.n_int (by decide +kernel) (pa_cons (pv 6) pa_nil)) pe_int)) (pa_cons (pe_op op_fdivG (pv 6) pe_int) pa_nil))) (pg_tup rfl (pgs_cons (pg_name (i := 7) sc_law.nd rfl (.inr rfl)) (pgs_cons (pg_name (i := 8) sc_law.nd rfl (.inl rfl)) pgs_nil))))
 (pss_cons (ps_if (pt_cmpR op_ne (pe_call G_sphere (hr.mono (by decide)) (by rfl) T.g_sphere T.F_sphere.kp T.b_sphere .nil passL (pa_cons (pe_op op_add (pv 7) (pe_op op_mul pe_int (pv 8))) pa_nil)) (pe_call G_l_carried (hr.mono (by decide)) (by rfl) T.g_l_carried T.F_l_carried.kp T.b_l_carried .nil passL (pa_cons (pe_lc (te := tCall (spD K (pr_sphere T)) [] E0 (tCons (tOp (rI0 fun i j => V.int (i + j)) (tVar 7) (tOp (rI CMul fun i j => V.int (i * j)) (tC (.int 12)) (tVar 11))) tNil)) (own := [("_law_k", 11)]) (g := gName 11) (by rfl) sc_law.nd (pi_range1 (by rfl) T.n_range (pa_cons pe_int pa_nil)) (blkOk_by (own := [("_law_k", 11)]) (N := N_law) (sc := defScope s_law) (by decide +kernel)) (fun _ _ _ _ _ => pg_name (i := 11) sc_law.nd rfl (Or.inl rfl)) (fun _ _ _ _ _ => pts_nil) (fun _ _ _ _ _ => (pe_call G_sphere (hr.mono (by decide)) (by rfl) T.g_sphere T.F_sphere.kp T.b_sphere .nil passL (pa_cons (pe_op op_add (pv 7) (pe_op op_mul pe_int (pv 11))) pa_nil)))) (pa_cons (pv 8) pa_nil))) (nomark _))
 (pss_one (ps_ret pe_bl))
 pss_nil)
 (pss_cons (ps_if (pt_cmpR op_ne (pe_call G_ball (hr.mono (by decide)) (by rfl) T.g_ball T.F_ball.kp T.b_ball .nil passL (pa_cons (pe_op op_add (pv 7) (pe_op op_mul pe_int (pv 8))) pa_nil)) (pe_call G_l_carried (hr.mono (by decide)) (by rfl) T.g_l_carried T.F_l_carried.kp T.b_l_carried .nil passL (pa_cons (pe_lc (te := tCall (spD K (pr_ball T)) [] E0 (tCons (tOp (rI0 fun i j => V.int (i + j)) (tVar 7) (tOp (rI CMul fun i j => V.int (i * j)) (tC (.int 12)) (tVar 11))) tNil)) (own := [("_law_k", 11)]) (g := gName 11) (by rfl) sc_law.nd (pi_range1 (by rfl) T.n_range (pa_cons pe_int pa_nil)) (blkOk_by (own := [("_law_k", 11)]) (N := N_law) (sc := defScope s_law) (by decide +kernel)) (fun _ _ _ _ _ => pg_name (i := 11) sc_law.nd rfl (Or.inl rfl)) (fun _ _ _ _ _ => pts_nil) (fun _ _ _ _ _ => (pe_call G_ball (hr.mono (by decide)) (by rfl) T.g_ball T.F_ball.kp T.b_ball .nil passL (pa_cons (pe_op op_add (pv 7) (pe_op op_mul pe_int (pv 11))) pa_nil)))) (pa_cons (pv 8) pa_nil))) (nomark _))
 (pss_one (ps_ret pe_bl))
 pss_nil)
 (pss_cons (ps_set (i := 9) sc_law.nd rfl (.inr rfl) (pe_call G_l_pick (hr.mono (by decide)) (by rfl) T.g_l_pick T.F_l_pick.kp T.b_l_pick .nil passL (pa_cons (pv 1) (pa_cons (pe_lst (pa_cons pe_non (pa_cons (pe_un un_neg pe_int) (pa_cons pe_bl (pa_cons pe_str (pa_cons (pe_lst (pa_cons pe_int pa_nil)) pa_nil)))))) pa_nil))))
 (pss_cons (ps_if (pt_cmpR (op_neD hr.units) (pe_lamarg (T := Tbs.T) (TT := TTl_refused T) (t := fun E => (tCall (spD K (pr_sphere T)) [] E (tCons (tVar 9) tNil))) (k := 5) (by rfl) T.g_l_refused T.F_l_refused.kp lk_l_refused cd_l_refused bd_l_refused sc_l_refused rfl (.inl rfl) (l_refused_gives T rfl rfl) TB rfl hmT (hr.mono (by decide)) (LamX.lamS_by (sc := defScope s_law) (by decide +kernel)) rfl (fun _ _ _ _ _ => rfl) (fun A outer s H E f d hr => (pe_call G_sphere (hr.mono (by decide)) (by rfl) T.g_sphere T.F_sphere.kp T.b_sphere .nil (passE (E := E)) (pa_cons (pv 9) pa_nil)))) (pe_tup (pa_cons pe_str (pa_cons (pv 9) pa_nil))) (nomark _))
 (pss_one (ps_ret pe_bl))
 pss_nil)
 (pss_one (ps_if (pt_cmpR (op_neD hr.units) (pe_lamarg (T := Tbs.T) (TT := TTl_refused T) (t := fun E => (tCall (spD K (pr_ball T)) [] E (tCons (tVar 9) tNil))) (k := 5) (by rfl) T.g_l_refused T.F_l_refused.kp lk_l_refused cd_l_refused bd_l_refused sc_l_refused rfl (.inl rfl) (l_refused_gives T rfl rfl) TB rfl hmT (hr.mono (by decide)) (LamX.lamS_by (sc := defScope s_law) (by decide +kernel)) rfl (fun _ _ _ _ _ => rfl) (fun A outer s H E f d hr => (pe_call G_ball (hr.mono (by decide)) (by rfl) T.g_ball T.F_ball.kp T.b_ball .nil (passE (E := E)) (pa_cons (pv 9) pa_nil)))) (pe_tup (pa_cons pe_str (pa_cons (pv 9) pa_nil))) (nomark _))
 (pss_one (ps_ret pe_bl))
 pss_nil)))))))))))))))
 (pss_cons (ps_set (i := 10) sc_law.nd rfl (.inr rfl) (pe_call G_l_draw (hr.mono (by decide)) (by rfl) T.g_l_draw T.F_l_draw.kp T.b_l_draw .nil passL (pa_cons (pv 1) (pa_cons pe_int pa_nil))))
 (pss_cons (ps_setLc (i := 5) (te := tOp (rI0 fun i j => V.int (i - j)) (tCall (spD K (pr_l_reached T)) [] E0 (tCons (tOp (rI0 fun i j => V.int (i + j)) (tOp (rI0 fun i j => V.int (i + j)) (tC (.int 2)) (tVar 10)) (tOp (rI CMul fun i j => V.int (i * j)) (tC (.int 12)) (tVar 11))) tNil)) (tCall (spD K (pr_l_reached T)) [] E0 (tCons (tOp (rI0 fun i j => V.int (i + j)) (tVar 10) (tOp (rI CMul fun i j => V.int (i * j)) (tC (.int 12)) (tVar 11))) tNil))) (own := [("_law_k", 11)]) (g := gName 11) (by rfl) sc_law.nd rfl rfl (sw_true rfl rfl rfl (by decide +kernel)) (pi_range1 (by rfl) T.n_range (pa_cons pe_int pa_nil)) (blkOk_by (own := [("_law_k", 11)]) (N := N_law) (sc := defScope s_law) (by decide +kernel)) (fun _ _ _ _ _ => pg_name (i := 11) sc_law.nd rfl (Or.inl rfl)) (fun _ _ _ _ _ => pts_nil) (fun _ _ _ _ _ => (pe_op op_sub (pe_call G_l_reached (hr.mono (by decide)) (by rfl) T.g_l_reached T.F_l_reached.kp T.b_l_reached .nil passL (pa_cons (pe_op op_add (pe_op op_add pe_int (pv 10)) (pe_op op_mul pe_int (pv 11))) pa_nil)) (pe_call G_l_reached (hr.mono (by decide)) (by rfl) T.g_l_reached T.F_l_reached.kp T.b_l_reached .nil passL (pa_cons (pe_op op_add (pv 10) (pe_op op_mul pe_int (pv 11))) pa_nil)))))
 (pss_one (ps_ret (pe_cmpR (op_eqD hr.units) (pe_lc (te := tCall (spD K (pr_sphere T)) [] E0 (tCons (tOp (rI0 fun i j => V.int (i + j)) (tOp (rI0 fun i j => V.int (i + j)) (tC (.int 2)) (tVar 10)) (tOp (rI CMul fun i j => V.int (i * j)) (tC (.int 12)) (tVar 11))) tNil)) (own := [("_law_k", 11)]) (g := gName 11) (by rfl) sc_law.nd (pi_range1 (by rfl) T.n_range (pa_cons pe_int pa_nil)) (blkOk_by (own := [("_law_k", 11)]) (N := N_law) (sc := defScope s_law) (by decide +kernel)) (fun _ _ _ _ _ => pg_name (i := 11) sc_law.nd rfl (Or.inl rfl)) (fun _ _ _ _ _ => pts_nil) (fun _ _ _ _ _ => (pe_call G_sphere (hr.mono (by decide)) (by rfl) T.g_sphere T.F_sphere.kp T.b_sphere .nil passL (pa_cons (pe_op op_add (pe_op op_add pe_int (pv 10)) (pe_op op_mul pe_int (pv 11))) pa_nil)))) (pv 5) (nomark _)))))))), run_body (ρ := [some (.scr ns), none, none, none, none, none, none, none, none, none, none, none]) hs hR hK hX rfl ?_⟩
  refine ws_seq (ws_set (we_call (wa_cons (we_var rfl (wa_nil ⟨_, rfl, hl, Int.le_refl _, ?_⟩)))))
  refine ws_cut (fun ρ' B' => ∃ n, n ≤ 2 ∧ LoopI ns n ρ' B') ?_ ?_
  · refine ws_for_range1 (wa_cons (we_op (we_int (we_min2 (wa_cons (we_int (wa_cons (we_lenS (wa_cons (we_var rfl (wa_nil ⟨_, rfl, wa_nil ⟨_, _, rfl, ro_i0 (wa_nil ⟨_, rfl, ?_, ?_, LoopI ns, ⟨⟨_, _, _, _, _, _, _, _, _, _, rfl⟩, by omega⟩, fun i ρ' B' hi hI => ?_, fun _ _ h => ⟨_, ?_, h⟩⟩)⟩⟩)))))))))))
    · split <;> omega
    · split <;> omega
    rotate_left
    · split <;> omega
    have hi2 : i < 2 := by
      revert hi
      split <;> omega
    clear hi
    obtain ⟨⟨o2, o3, o4, o5, o6, o7, o8, o9, o10, o11, rfl⟩, hB⟩ := hI
    refine wg_name ?_
    refine ws_cut (fun ρ' B2 => ∃ n : Int, ρ' = [some (.scr ns), some penF, some (.int (0 + i)), some (.int n), o4, o5, o6, o7, o8, o9, o10, o11] ∧ 0 ≤ n ∧ n < 27 ∧ B2 ≤ B' + 1) ?_ ?_
    · refine (ws_set (we_call (wa_cons (we_var rfl (wa_cons (we_int (wa_nil ⟨_, rfl, by first | decide +kernel | omega, by first | decide +kernel | omega, by omega, fun d d0 d1 => ?_⟩)))))))
      exact ⟨_, rfl, d0, d1, by omega⟩
    rintro _ B2 ⟨n, rfl, n0, n1, hB2⟩
    obtain ⟨near1, near2⟩ := near n0 n1
    refine ws_cut (fun ρ' B3 => ρ' = [some (.scr ns), some penF, some (.int (0 + i)), some (.int n), some (.int (if n > 1 then reachedF (n - 2) else 0)), o5, o6, o7, o8, o9, o10, o11] ∧ B2 = B3) ?_ ?_
    · refine ws_set (we_ifE (wt_test (we_op (we_var rfl (we_int (ro_b0 ⟨_, rfl, ⟨fun h => ?_, fun h => ?_⟩⟩))))))
      · refine we_call (wa_cons (we_op (we_var rfl (we_int (ro_i0 (wa_nil ⟨_, rfl, ?_, ?_, ?_⟩))))))
        · have := of_decide_eq_true h; omega
        · omega
        · rw [if_pos (of_decide_eq_true h)]
          exact ⟨rfl, rfl⟩
      · refine we_int ?_
        rw [if_neg (of_decide_eq_false h)]
        exact ⟨rfl, rfl⟩
    rintro _ _ ⟨rfl, rfl⟩
    refine ws_seq (ws_set (we_call (wa_cons (we_var rfl (wa_nil ⟨_, rfl, by omega, by omega, ?_⟩)))))
    refine ws_cut (fun ρ' B3 => ρ' = [some (.scr ns), some penF, some (.int (0 + i)), some (.int n), some (.int (if n > 1 then reachedF (n - 2) else 0)), some (.int (reachedF n)), o6, o7, o8, o9, o10, o11] ∧ B2 = B3) ?_ ?_
    · refine (ws_if (wt_or (wt_test (we_op (we_call (wa_cons (we_var rfl (wa_nil ⟨_, rfl, .inl ⟨_, rfl, n0, by unfold Bd; omega, (we_op (we_var rfl (we_var rfl (ro_i0 (ro_neI ⟨_, rfl, ⟨fun hc1 => ⟨fun _ => ?_, fun h => absurd h (by decide)⟩, fun hc2 => (wt_val (we_isi_bool T (wa_cons (we_call (wa_cons (we_var rfl (wa_nil ⟨_, rfl, .inl ⟨_, rfl, n0, by unfold Bd; omega, (wa_cons (we_val (wa_nil ⟨_, rfl, rfl, ⟨_, rfl, ⟨fun hc3 => ?_, fun hc4 => ?_⟩⟩⟩)))⟩⟩)))))))⟩⟩)))))⟩⟩))))))))
      · first | exact (ne_of_dec hc1 near1).elim | exact (Bool.false_ne_true hc3).elim
      · first | exact (ne_of_dec hc1 near1).elim | exact (Bool.false_ne_true hc3).elim
      · refine ws_next ?_
        exact ⟨rfl, rfl⟩
    rintro _ _ ⟨rfl, rfl⟩
    refine ws_cut (fun ρ' B3 => ρ' = [some (.scr ns), some penF, some (.int (0 + i)), some (.int n), some (.int (if n > 1 then reachedF (n - 2) else 0)), some (.int (reachedF n)), o6, o7, o8, o9, o10, o11] ∧ B2 = B3) ?_ ?_
    · refine ws_if (wt_test (we_op (we_call (wa_cons (we_var rfl (wa_nil ⟨_, rfl, .inl ⟨_, rfl, n0, by unfold Bd; omega, we_op (we_var rfl (we_ifE (wt_test (we_op (we_var rfl (we_int (ro_b0 ⟨_, rfl, ⟨fun h => ?_, fun h => ?_⟩⟩)))))))⟩⟩))))))
      · refine we_call (wa_cons (we_op (we_var rfl (we_int (ro_i0 (wa_nil ⟨_, rfl, ?_, ?_, ?_⟩))))))
        · have := of_decide_eq_true h; omega
        · omega
        · rw [if_pos (of_decide_eq_true h)] at near2
          refine ro_i0 (ro_neI ⟨_, rfl, ⟨fun z => (ne_of_dec z near2).elim, fun _ => ?_⟩⟩)
          exact ws_next ⟨rfl, rfl⟩
      · rw [if_neg (of_decide_eq_false h)] at near2
        refine we_int (ro_i0 (ro_neI ⟨_, rfl, ⟨fun z => (ne_of_dec z near2).elim, fun _ => ?_⟩⟩))
        exact ws_next ⟨rfl, rfl⟩
    rintro _ _ ⟨rfl, rfl⟩
    refine ws_cut (fun ρ' B5 => ∃ m : Int, ρ' = [some (.scr ns), some penF, some (.int (0 + i)), some (.int n), some (.int (if n > 1 then reachedF (n - 2) else 0)), some (.int (reachedF n)), some (.int m), o7, o8, o9, o10, o11] ∧ 0 ≤ m ∧ Bd 302 m ∧ B5 ≤ B' + 30) ?_ ?_
    · refine (ws_set (we_call (wa_cons (we_var rfl (wa_cons (we_lst (wa_cons (we_call (wa_cons (we_var rfl (wa_cons (we_op (we_int (we_int (ro_i ⟨by decide +kernel, by decide +kernel, by decide +kernel⟩ (wa_nil ⟨_, rfl, by first | decide +kernel | omega, by first | decide +kernel | omega, by omega, fun d d0 d1 => (wa_cons (we_call (wa_cons (we_var rfl (wa_cons (we_int (wa_nil ⟨rfl, by omega, fun g1 B1 hg0 hg1 hB1 => (wa_cons (we_op (we_int (we_int (ro_i ⟨by decide +kernel, by decide +kernel, by decide +kernel⟩ (wa_nil ⟨Nat.le_of_ble_eq_true rfl, (wa_nil ⟨_, rfl, by show 0 < 3; decide, by show 3 ≤ 1000; decide, by omega, fun f hf => ?_⟩)⟩))))))⟩)))))))⟩))))))))))))))))
      simp only [List.mem_cons, List.not_mem_nil, or_false] at hf
      have hf2 : ∃ m : Int, f = .int m ∧ 0 ≤ m ∧ Bd 302 m := by rcases hf with rfl | rfl | rfl; exact ⟨_, rfl, d0, bd_e6 d0 d1⟩; exact ⟨_, rfl, hg0, hg1.mono (by decide)⟩; exact ⟨_, rfl, by decide +kernel, Bd.lit 302 (by decide +kernel)⟩
      obtain ⟨m, rfl, m0, m1⟩ := hf2
      refine ?_
      exact ⟨_, rfl, m0, m1, by omega⟩
    rintro _ B5 ⟨m, rfl, m0, m1, hB5⟩
    have m1' : Bd 320 (m + 1) := Bd.mono (Bd.add m1 ((Bd.lit 64 (by decide)).mono (by decide))) (by decide)
    refine ws_cut (fun ρ' B6 => ρ' = [some (.scr ns), some penF, some (.int (0 + i)), some (.int n), some (.int (if n > 1 then reachedF (n - 2) else 0)), some (.int (reachedF n)), some (.int m), o7, o8, o9, o10, o11] ∧ B5 = B6) ?_ ?_
    · refine (ws_if (wt_test (we_op (we_call (wa_cons (we_op (we_var rfl (we_int (ro_i0 (wa_nil ⟨_, rfl, .inl ⟨_, rfl, by omega, (by apply Bd.mono; (repeat (first | assumption | exact Bd.lit 64 (by decide +kernel) | exact Bd.lit 2000 (by decide +kernel) | apply Bd.neg | apply Bd.fdiv | apply Bd.mul | apply Bd.add2 | apply Bd.sub2)); decide), (we_op (we_call (wa_cons (we_var rfl (wa_nil ⟨_, rfl, .inl ⟨_, rfl, by omega, (by apply Bd.mono; (repeat (first | assumption | exact Bd.lit 64 (by decide +kernel) | exact Bd.lit 2000 (by decide +kernel) | apply Bd.neg | apply Bd.fdiv | apply Bd.mul | apply Bd.add2 | apply Bd.sub2)); decide), (we_call (wa_cons (we_op (we_var rfl (we_int (ro_i0 (wa_nil ⟨_, rfl, .inl ⟨_, rfl, by omega, (by apply Bd.mono; (repeat (first | assumption | exact Bd.lit 64 (by decide +kernel) | exact Bd.lit 2000 (by decide +kernel) | apply Bd.neg | apply Bd.fdiv | apply Bd.mul | apply Bd.add2 | apply Bd.sub2)); decide), (ro_i0 (ro_neI ⟨_, rfl, ⟨fun hc1 => ?_, fun hc2 => ?_⟩⟩))⟩⟩)))))))⟩⟩)))))⟩⟩))))))))))
      · (refine (ne_of_dec hc1 ?_).elim; rw [sphere_pos m0]; omega)
      · refine ws_next ?_
        exact ⟨rfl, rfl⟩
    rintro _ _ ⟨rfl, rfl⟩
    refine ws_cut (fun ρ' B6 => ∃ fi la : Int, ρ' = [some (.scr ns), some penF, some (.int (0 + i)), some (.int n), some (.int (if n > 1 then reachedF (n - 2) else 0)), some (.int (reachedF n)), some (.int m), some (.int fi), some (.int la), o9, o10, o11] ∧ 2 ≤ fi ∧ fi < 14 ∧ 0 ≤ la ∧ Bd 302 la ∧ B5 = B6) ?_ ?_
    · refine (ws_asg (we_tup (wa_cons (we_op (we_int (we_op (we_intof (wa_cons (we_var rfl (wa_nil ⟨_, rfl, (we_int (ro_i (by decide +kernel) (ro_i0 (wa_cons (we_op (we_var rfl (we_int (ro_i ⟨by decide +kernel, by decide +kernel⟩ (wa_nil ⟨Nat.le_of_ble_eq_true rfl, (wg_tup rfl (wgs_cons (wg_name (wgs_cons (wg_name (wgs_nil ?_))))))⟩)))))))))⟩))))))))))
      refine ⟨_, _, rfl, ?_, ?_, ?_, Bd.fdiv m1, rfl⟩
      · have := Int.fmod_nonneg_of_pos m (show (0 : Int) < 12 by decide); omega
      · have := Int.fmod_lt_of_pos m (show (0 : Int) < 12 by decide); omega
      · exact Int.fdiv_nonneg m0 (by decide)
    rintro _ _ ⟨fi, la, rfl, fi0, fi1, la0, bla, rfl⟩
    obtain ⟨key1, key2⟩ := carried_all fi0 fi1 la0
    have b12 : Bd 320 (fi + 12 * la) := Bd.mono (Bd.add2 (show Bd 4 fi by unfold Bd; omega) (Bd.mul (Bd.lit 4 (by decide)) bla)) (by decide)
    have p12 : 0 ≤ fi + 12 * la := by omega
    refine ws_cut (fun ρ' B6 => ρ' = [some (.scr ns), some penF, some (.int (0 + i)), some (.int n), some (.int (if n > 1 then reachedF (n - 2) else 0)), some (.int (reachedF n)), some (.int m), some (.int fi), some (.int la), o9, o10, o11] ∧ B5 = B6) ?_ ?_
    · refine (ws_if (wt_test (we_op (we_call (wa_cons (we_op (we_var rfl (we_op (we_int (we_var rfl (ro_i (.inl ⟨by decide +kernel, by decide +kernel⟩) (ro_i0 (wa_nil ⟨_, rfl, .inl ⟨_, rfl, p12, b12.mono (by decide), (we_call (wa_cons (we_lc_rangeF (E1 := E0) (wa_cons (we_int (wa_nil ⟨_, rfl, by decide, by decide, Nat.le_of_ble_eq_true rfl, fun i => .int (sphereF (fi + 12 * (0 + (i : Int)))), fun j hj k2 hk2 => we_call (wa_cons (we_op (we_var rfl (we_op (we_int (we_var rfl (ro_i (.inl ⟨by decide +kernel, by decide +kernel⟩) (ro_i0 (wa_nil ⟨_, rfl, .inl ⟨_, rfl, by omega, (by have h4 : j < 4 := hj; unfold Bd; omega), hk2⟩⟩))))))))), (wa_cons (we_var rfl (wa_nil ⟨[sphereF (fi + 12 * 0), sphereF (fi + 12 * 1), sphereF (fi + 12 * 2), sphereF (fi + 12 * 3)], _, rfl, Nat.le_of_ble_eq_true rfl, row_bd4 fi0 fi1, bla.mono (by decide), (ro_neI ⟨_, rfl, ⟨fun hc1 => ?_, fun hc2 => ?_⟩⟩)⟩)))⟩))))))⟩⟩)))))))))))))
      · exact (ne_of_dec hc1 key1).elim
      · refine ws_next ?_
        exact ⟨rfl, rfl⟩
    rintro _ _ ⟨rfl, rfl⟩
    refine ws_cut (fun ρ' B6 => ρ' = [some (.scr ns), some penF, some (.int (0 + i)), some (.int n), some (.int (if n > 1 then reachedF (n - 2) else 0)), some (.int (reachedF n)), some (.int m), some (.int fi), some (.int la), o9, o10, o11] ∧ B5 = B6) ?_ ?_
    · refine (ws_if (wt_test (we_op (we_call (wa_cons (we_op (we_var rfl (we_op (we_int (we_var rfl (ro_i (.inl ⟨by decide +kernel, by decide +kernel⟩) (ro_i0 (wa_nil ⟨_, rfl, .inl ⟨_, rfl, p12, b12.mono (by decide), (we_call (wa_cons (we_lc_rangeF (E1 := E0) (wa_cons (we_int (wa_nil ⟨_, rfl, by decide, by decide, Nat.le_of_ble_eq_true rfl, fun i => .int (withinF (fi + 12 * (0 + (i : Int)))), fun j hj k2 hk2 => we_call (wa_cons (we_op (we_var rfl (we_op (we_int (we_var rfl (ro_i (.inl ⟨by decide +kernel, by decide +kernel⟩) (ro_i0 (wa_nil ⟨_, rfl, .inl ⟨_, rfl, by omega, (by have h4 : j < 5 := hj; unfold Bd; omega), hk2⟩⟩))))))))), (wa_cons (we_var rfl (wa_nil ⟨[withinF (fi + 12 * 0), withinF (fi + 12 * 1), withinF (fi + 12 * 2), withinF (fi + 12 * 3), withinF (fi + 12 * 4)], _, rfl, Nat.le_of_ble_eq_true rfl, row_bd5 fi0 fi1, bla.mono (by decide), (ro_neI ⟨_, rfl, ⟨fun hc1 => ?_, fun hc2 => ?_⟩⟩)⟩)))⟩))))))⟩⟩)))))))))))))
      · exact (ne_of_dec hc1 key2).elim
      · refine ws_next ?_
        exact ⟨rfl, rfl⟩
    rintro _ _ ⟨rfl, rfl⟩
    refine ws_cut (fun ρ' B6 => ∃ d, ρ' = [some (.scr ns), some penF, some (.int (0 + i)), some (.int n), some (.int (if n > 1 then reachedF (n - 2) else 0)), some (.int (reachedF n)), some (.int m), some (.int fi), some (.int la), some d, o10, o11] ∧ plainD d = true ∧ badW d ∧ pyOk d = true ∧ SeqAt.shaped (py (.tup [.str "number", d])) = true ∧ B6 ≤ B' + 40) ?_ ?_
    · refine (ws_set (we_call (wa_cons (we_var rfl (wa_cons (we_lst (wa_cons (we_non (wa_cons (we_neg (we_int ⟨_, rfl, (wa_cons (we_bl (wa_cons (we_str (wa_cons (we_lst (wa_cons (we_int (wa_nil ⟨Nat.le_of_ble_eq_true rfl, (wa_nil ⟨Nat.le_of_ble_eq_true rfl, (wa_nil ⟨_, rfl, by show 0 < 5; decide, by show 5 ≤ 1000; decide, by omega, fun f hf => ?_⟩)⟩)⟩)))))))))⟩)))))))))))
      simp only [List.mem_cons, List.not_mem_nil, or_false] at hf
      have hf2 : plainD f = true ∧ badW f ∧ pyOk f = true ∧ SeqAt.shaped (py (.tup [.str "number", f])) = true := by rcases hf with rfl | rfl | rfl | rfl | rfl <;> exact ⟨rfl, by first | exact .inl rfl | exact .inr ⟨_, rfl, by decide⟩, rfl, by decide +kernel⟩
      obtain ⟨o1, o2q, o3q, o4q⟩ := hf2
      refine ?_
      exact ⟨_, rfl, o1, o2q, o3q, o4q, by omega⟩
    rintro _ B6 ⟨d, rfl, pd, bd, okd, shd, hB6⟩
    have ok2 : pyOk (.tup [.str "number", d]) = true := by show (true && (pyOk d && true)) = true; rw [okd]; rfl
    refine ws_cut (fun ρ' B7 => ρ' = [some (.scr ns), some penF, some (.int (0 + i)), some (.int n), some (.int (if n > 1 then reachedF (n - 2) else 0)), some (.int (reachedF n)), some (.int m), some (.int fi), some (.int la), some d, o10, o11] ∧ B6 = B7) ?_ ?_
    · refine ws_if (wt_test (we_op (we_lamarg (i := 1) (tt_ref T) rfl rfl hmT huT fun Ech => we_callE (wa_cons (we_var rfl (wa_nil ⟨_, rfl, .inr ⟨pd, bd, ?_⟩⟩))))))
      refine ⟨rfl, _, rfl, we_tup (wa_cons (we_str (wa_cons (we_var rfl (wa_nil ⟨Nat.le_of_ble_eq_true rfl, ro_neD ok2 ok2 shd shd ⟨_, rfl, ⟨fun z => (tcd _ z).elim, fun _ => ?_⟩⟩⟩)))))⟩
      exact ws_next ⟨rfl, rfl⟩
    rintro _ _ ⟨rfl, rfl⟩
    refine ws_if (wt_test (we_op (we_lamarg (i := 1) (tt_ref T) rfl rfl hmT huT fun Ech => we_callE (wa_cons (we_var rfl (wa_nil ⟨_, rfl, .inr ⟨pd, bd, ?_⟩⟩))))))
    refine ⟨rfl, _, rfl, we_tup (wa_cons (we_str (wa_cons (we_var rfl (wa_nil ⟨Nat.le_of_ble_eq_true rfl, ro_neD ok2 ok2 shd shd ⟨_, rfl, ⟨fun z => (tcd _ z).elim, fun _ => ?_⟩⟩⟩)))))⟩
    exact ws_next ⟨⟨_, _, _, _, _, _, _, _, _, _, rfl⟩, by omega⟩
  rintro _ B8 ⟨nn, hnn, ⟨o2, o3, o4, o5, o6, o7, o8, o9, o10, o11, rfl⟩, hB8⟩
  refine ws_cut (fun ρ' B6 => ∃ s : Int, ρ' = [some (.scr ns), some penF, o2, o3, o4, o5, o6, o7, o8, o9, some (.int s), o11] ∧ 0 ≤ s ∧ s < 4) ?_ ?_
  · refine (ws_set (we_call (wa_cons (we_var rfl (wa_cons (we_int (wa_nil ⟨_, rfl, by first | decide +kernel | omega, by first | decide +kernel | omega, by omega, fun d d0 d1 => ?_⟩)))))))
    exact ⟨_, rfl, d0, d1⟩
  rintro _ B9 ⟨s1, rfl, s0, s4⟩
  refine ws_seq (ws_set (we_lc_rangeF (E1 := E0) (wa_cons (we_int (wa_nil ⟨_, rfl, by decide, by decide, Nat.le_of_ble_eq_true rfl, fun i => .int (reachedF (2 + s1 + 12 * (0 + (i : Int))) - reachedF (s1 + 12 * (0 + (i : Int)))), fun j hj k2 hk2 => ?_, ?_⟩)))))
  · have h4 : j < 4 := hj
    refine we_op (we_call (wa_cons (we_op (we_op (we_int (we_var rfl (ro_i0 (we_op (we_int (we_var rfl (ro_i (.inl ⟨by decide +kernel, by decide +kernel⟩) (ro_i0 (wa_nil ⟨_, rfl, by omega, by omega, ?_⟩)))))))))))))
    refine we_call (wa_cons (we_op (we_var rfl (we_op (we_int (we_var rfl (ro_i (.inl ⟨by decide +kernel, by decide +kernel⟩) (ro_i0 (wa_nil ⟨_, rfl, by omega, by omega, ro_i0 hk2⟩)))))))))
  refine ws_ret (we_op (we_lc_rangeF (E1 := E0) (wa_cons (we_int (wa_nil ⟨_, rfl, by decide, by decide, Nat.le_of_ble_eq_true rfl, fun i => .int (sphereF (2 + s1 + 12 * (0 + (i : Int)))), fun j hj k2 hk2 => ?_, ?_⟩)))))
  · have h4 : j < 4 := hj
    refine we_call (wa_cons (we_op (we_op (we_int (we_var rfl (ro_i0 (we_op (we_int (we_var rfl (ro_i (.inl ⟨by decide +kernel, by decide +kernel⟩) (ro_i0 (wa_nil ⟨_, rfl, .inl ⟨_, rfl, by omega, (by unfold Bd; omega), hk2⟩⟩))))))))))))
  · refine we_var rfl (ro_eqD rfl rfl rfl rfl ?_)
    have e : (List.map (fun i : Nat => D.int (sphereF (2 + s1 + 12 * (0 + (i : Int))))) (List.range 4)) = (List.map (fun i : Nat => D.int (reachedF (2 + s1 + 12 * (0 + (i : Int))) - reachedF (s1 + 12 * (0 + (i : Int))))) (List.range 4)) := by
      refine List.map_congr_left fun i hi => ?_
      have h4 := List.mem_range.mp hi
      rw [late s0 s4 (by omega) (by omega)]
    have e2 : PyData.eqv (py (.lst (List.map (fun i : Nat => D.int (sphereF (2 + s1 + 12 * (0 + (i : Int))))) (List.range 4)))) (py (.lst (List.map (fun i : Nat => D.int (reachedF (2 + s1 + 12 * (0 + (i : Int))) - reachedF (s1 + 12 * (0 + (i : Int))))) (List.range 4)))) = true := by rw [e, eqv_self]
    exact e2 ▸ hk _
end
end AW

namespace AW
open PySem PySem.Spec PyProof.Rows L2
/-- the law, called as the statement calls it -/
theorem law_at {l : PySem.W.OpenLaw} {w : World} {K : PySem.W.Frag} {mg : Str → Option Value} {fa : Addr} {h : Heap} (T : Tx K mg) (ea : T.a_law = fa) (KX : K.In h) (ht_law : h.get? T.pt_law = some (PySem.W.tabObj #[])) :
    LamX.LawAtS l w K (L2.CX l.prog w) 9 63 "_law_script" mg fa h := by
  subst ea
  letI : Tbs := ⟨tabs1 T⟩
  refine ⟨T.d_law, [(T.cc_law, T.pt_law)], spLaw K, fun p hp => ?_, fun p hp => ?_, fun p hp => ?_, fun s u => ?_, fun H a ns hl _ hH hS => ?_, fun base KB hm hb => ?_⟩
  · simp only [List.mem_cons, List.not_mem_nil, or_false] at hp
    rcases hp with rfl
    · exact ht_law
  · simp only [List.mem_cons, List.not_mem_nil, or_false] at hp
    rcases hp with rfl
    · exact T.n_law
  · simp only [List.mem_cons, List.not_mem_nil, or_false] at hp
    rcases hp with rfl
    · exact PySem.W.codeHd_of_K KX T.h_law
  · obtain ⟨oc, od, kV, doc, pm, an, cdv, ct, osl, e, lk, hcd⟩ := T.F_law.ex
    rw [e]
    exact BindsTo.of_eq rfl
  · refine ⟨a, ns, rfl, hS, hl, fun q hq => ?_, fun H' => rfl⟩
    have hq2 : q ∈ tabs1 T := hq
    unfold tabs1 at hq2
    simp only [List.mem_cons, List.not_mem_nil, or_false] at hq2
    rcases hq2 with rfl
    · exact LamX.TabS.nil (hH (T.cc_law, T.pt_law) (by simp))
  · exact ((okD_law T (hb (T.cc_law, T.pt_law) (by simp)) rfl).mono (by decide)).imp (spLaw_imp fun ns k hl hk => ⟨ns, rfl, hl, rfl, hk⟩)
end AW
open PySem PySem.W PyProof.Rows in
set_option maxRecDepth 100000 in
set_option maxHeartbeats 0 in
theorem PySem.Challenge.cw_areawalks_k19_whole_spheres_holds : PySem.Challenge.rw_areawalks_k19_whole_spheres.Holds := by
  w_on; o_law; k_head; (case hw => w_witness2)
  k_fill
  refine LamX.walk_ofTs (l := PySem.Challenge.rw_areawalks_k19_whole_spheres) (n := 63) (k := 9) (x := "_law_script") (CX := fun w => L2.CX (PySem.Challenge.rw_areawalks_k19_whole_spheres).prog w) rfl (by decide) rfl ⟨rfl, by decide, by decide⟩ (fun w h Y => PySem.W.km_in_of Y) ?F ?G
  case G =>
    intro w H s e s' h
    obtain ⟨_, _, _, _, _, _, _, _, _, _, _, _, z⟩ := h
    exact z.elim
  case F =>
    intro w mg fa h Y KX G hmg
    have ht := PySem.W.km_tabs_of Y
    refine' AW.tx_mk (pt_law := 140) KX G hmg ?g_is_integer ?l_is_integer ?c_is_integer ?k_is_integer ?g_check_from ?l_check_from ?c_check_from ?k_check_from ?g_check_whole ?l_check_whole ?c_check_whole ?k_check_whole ?g_sphere ?l_sphere ?c_sphere ?k_sphere ?g_ball ?l_ball ?c_ball ?k_ball ?g_places_within ?l_places_within ?c_places_within ?k_places_within ?g_l_pen ?l_l_pen ?c_l_pen ?k_l_pen ?g_l_draw ?l_l_draw ?c_l_draw ?k_l_draw ?g_l_pick ?l_l_pick ?c_l_pick ?k_l_pick ?g_l_great ?l_l_great ?c_l_great ?k_l_great ?g_l_reached ?l_l_reached ?c_l_reached ?k_l_reached ?g_l_carried ?l_l_carried ?c_l_carried ?k_l_carried ?g_l_refused ?l_l_refused ?c_l_refused ?k_l_refused ?g_law ?l_law ?c_law ?h_law ?n_law ?k_law ?g_C_WalkError ?sa_WalkError ?ex_WalkError ?ty_WalkError ?kc_WalkError ?ga_WalkError ?gg_WalkError ?hd_WalkError ?ic_WalkError ?x_WalkError ?g_C_BadNumber ?m_BadNumber_init ?i_BadNumber_init ?l_BadNumber_init ?c_BadNumber_init ?k_BadNumber_init ?sa_BadNumber ?ex_BadNumber ?ty_BadNumber ?kc_BadNumber ?ga_BadNumber ?gg_BadNumber ?hd_BadNumber ?ic_BadNumber ?x_BadNumber ?na_BadNumber_value ?em_BadNumber_BadNumber ?n_bool ?n_int ?n_isinstance ?n_len ?n_list ?n_min ?n_range ?gc_LAST_FIGURES ?lc_LAST_FIGURES ?vc_LAST_FIGURES ?kk
    (case g_is_integer => k_is)
    (case l_is_integer => k_is)
    (case c_is_integer => k_is)
    (case k_is_integer => k_is)
    (case g_check_from => k_is)
    (case l_check_from => k_is)
    (case c_check_from => k_is)
    (case k_check_from => k_is)
    (case g_check_whole => k_is)
    (case l_check_whole => k_is)
    (case c_check_whole => k_is)
    (case k_check_whole => k_is)
    (case g_sphere => k_is)
    (case l_sphere => k_is)
    (case c_sphere => k_is)
    (case k_sphere => k_is)
    (case g_ball => k_is)
    (case l_ball => k_is)
    (case c_ball => k_is)
    (case k_ball => k_is)
    (case g_places_within => k_is)
    (case l_places_within => k_is)
    (case c_places_within => k_is)
    (case k_places_within => k_is)
    (case g_l_pen => k_is)
    (case l_l_pen => k_is)
    (case c_l_pen => k_is)
    (case k_l_pen => k_is)
    (case g_l_draw => k_is)
    (case l_l_draw => k_is)
    (case c_l_draw => k_is)
    (case k_l_draw => k_is)
    (case g_l_pick => k_is)
    (case l_l_pick => k_is)
    (case c_l_pick => k_is)
    (case k_l_pick => k_is)
    (case g_l_great => k_is)
    (case l_l_great => k_is)
    (case c_l_great => k_is)
    (case k_l_great => k_is)
    (case g_l_reached => k_is)
    (case l_l_reached => k_is)
    (case c_l_reached => k_is)
    (case k_l_reached => k_is)
    (case g_l_carried => k_is)
    (case l_l_carried => k_is)
    (case c_l_carried => k_is)
    (case k_l_carried => k_is)
    (case g_l_refused => k_is)
    (case l_l_refused => k_is)
    (case c_l_refused => k_is)
    (case k_l_refused => k_is)
    (case g_law => k_is)
    (case l_law => k_is)
    (case c_law => k_is)
    (case h_law => (first | k_is | exact rfl | kernel_rfl))
    (case n_law => (first | k_is | exact rfl | kernel_rfl))
    (case k_law => k_is)
    (case g_C_WalkError => k_is)
    (case sa_WalkError => k_is)
    (case ex_WalkError => k_is)
    (case ty_WalkError => k_is)
    (case kc_WalkError => k_is)
    (case ga_WalkError => k_is)
    (case gg_WalkError => k_is)
    (case hd_WalkError => k_is)
    (case ic_WalkError => k_is)
    (case x_WalkError => k_is)
    (case g_C_BadNumber => k_is)
    (case m_BadNumber_init => k_is)
    (case i_BadNumber_init => k_is)
    (case l_BadNumber_init => k_is)
    (case c_BadNumber_init => k_is)
    (case k_BadNumber_init => k_is)
    (case sa_BadNumber => k_is)
    (case ex_BadNumber => k_is)
    (case ty_BadNumber => k_is)
    (case kc_BadNumber => k_is)
    (case ga_BadNumber => k_is)
    (case gg_BadNumber => k_is)
    (case hd_BadNumber => k_is)
    (case ic_BadNumber => k_is)
    (case x_BadNumber => k_is)
    (case na_BadNumber_value => k_is)
    (case em_BadNumber_BadNumber => kts_exm)
    (case n_bool => k_is)
    (case n_int => k_is)
    (case n_isinstance => k_is)
    (case n_len => k_is)
    (case n_list => k_is)
    (case n_min => k_is)
    (case n_range => k_is)
    (case gc_LAST_FIGURES => k_is)
    (case lc_LAST_FIGURES => k_is)
    (case vc_LAST_FIGURES => rfl)
    (case kk =>
      intro T ea ep_law
      exact AW.law_at T ea KX (by rw [ep_law]; exact ht 140 (by decide)))
