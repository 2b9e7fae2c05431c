import PyProof.Rows.All
import Wide.All
import OpenK.AllK
import Wide.FinOn
import PyProof.InstEq
import HandS.ForMost
import HandS.IsInst
import HandS.OwnEq
import HandS.SlotsOwn
import HandS.NamedTupSort
import HandS.Exc
import HandS.TryMany
import HandS.ExcField
import HandS.WordsExc
import HandS.Lambda
import OpenK.KOwn
import HandS.Gcd
import HandS.ExcOwn
import HandS.Small
import PyProof.ExcBaseAll.ValueError
import KE.KCallOwn
import HandS.Deep
import KE.DatumOrd
import KE.LtData
import KE.KDictDisplayH
import HandS.Iter
import HandS.Conv
import HandS.SortInts
import HandS.More
import KE.KDictCopyH
import HandS.ExcInit
import HandS.Wide
import HandS.Walk
import HandS.Style
import HandS.Zip
import HandS.NoneIn
import HandS.CallLocal
import HandS.Text
import HandS.Property
import HandS.Star
import HandS.StrMore
import HandS.TupAny
import KE.RegKIsAll
import KE.RegKTryMore
import KE.KNestM
import HandS.MakeKw
import HandS.Defaults
import KE.KEqSeq
import Flt.RightSqrt
import HandS.WideBits
import HandS.EndTab
import PySem.Challenge.RW_areawalks_k59_whole_long_rounds
set_option Elab.async false
set_option linter.all false
set_option maxRecDepth 100000
set_option maxHeartbeats 4000000
/-! own operators of an instance, whatever stands on the right -/
namespace AWR
open PySem PySem.W PyProof.Rows Builtin
section
variable {prog : Program} {w : World} {A : Around} {E : Value → Shared → Prop} {s : Shared} {K : Frag} {x C f : Addr} {ox : Obj} {oD : Option Obj} {b tb : Value}
/-- x != b by object.__ne__, the own __eq__ behind it -/
theorem one_ne {Q : Value → Shared → Prop} (hu : A.units + 1 < cLine) (X : K.In s.heap) (iv : InstAt s.heap x ox C oD)
    (hne : findIn K (.ref C) "__ne__" = some (some (.builtin "object.__ne__"))) (hm : mroIn K C (.type "object") = some true)
    (hs : findIn K (.ref C) "__eq__" = some (some (.ref f))) (hf : isFn K (.ref f) = true)
    (h : wpAny (model prog w) A.in1 (call (.ref f) [.ref x, b]) (fun v s' => ∃ r, v = .bool r ∧ Q (.bool (!r)) s') E s) :
    wpAny (model prog w) A (tryCompare (.ref x) "__ne__" b) (fun r s' => ∃ v, r = some v ∧ Q v s') E s := by
  simp only [tryCompare]
  have lookN : Looks (model prog w) s.heap (specialOf (.ref x) "__ne__") (some (.builtin "object.__ne__")) := fun A Q E s' k q => wpAny_bind ((iv.type.keeps k).here ((looks_findIn (X.keeps k) hne).here q))
  have L2 : Looks (model prog w) s.heap (isInstance (.ref x) (.type "object")) true := iv.type.andThen (looks_mroIn X hm)
  refine wpAny_bind (NtL.csib lookN (by kernel_rfl) ?_)
  refine wpAny_call (codeAny_call_builtin (by decide +kernel) F.cmpEntry_ne (check_slot F.cmpKind_ne F.cmpSplit_ne L2 (F.cmpArgs_ne _ _) ?_))
  unfold Builtin.«object.__ne__»
  repeat (first
    | with_reducible refine wpAny_cRoomFor hu ?_
    | (refine wpAny_bind (m := callSpecialIfBound? (.ref x) (Str.ofString "__eq__") [b]) (ifBound_K X iv hs hf (wpAny_mono h (fun r s' hr => by
          obtain ⟨q, rfl, kq⟩ := hr
          repeat (first | exact ⟨_, rfl, wpAny_pure ⟨_, rfl, kq⟩⟩ | exact wpAny_pure ⟨_, rfl, kq⟩ | exact wpAny_truthy_bool ⟨_, rfl, kq⟩ | (refine wpAny_bind (m := truthy (.bool _)) (wpAny_truthy_bool ?_)) | wp_step)) fun _ _ e => e)))
    | wp_step)
theorem ne_K {Q : Value → Shared → Prop} (hu : A.units + 1 < cLine) (X : K.In s.heap) (iv : InstAt s.heap x ox C oD) (hb : Looks (model prog w) s.heap (typeOf b) tb) (hn : notFirst K C tb = true)
    (hne : findIn K (.ref C) "__ne__" = some (some (.builtin "object.__ne__"))) (hm : mroIn K C (.type "object") = some true)
    (hs : findIn K (.ref C) "__eq__" = some (some (.ref f))) (hf : isFn K (.ref f) = true)
    (h : wpAny (model prog w) A.in1 (call (.ref f) [.ref x, b]) (fun v s' => ∃ r, v = .bool r ∧ Q (.bool (!r)) s') E s) : wpAny (model prog w) A (richCompare .NotEq (.ref x) b) Q E s := by
  have cmp1 := one_ne (b := b) (Q := Q) hu X iv hne hm hs hf h
  unfold richCompare
  simp only [oneThing_ref]
  refine wpAny_holding (wpAny_bind (wpAny_cRoomFor (Nat.lt_of_succ_lt hu) ?_))
  refine wpAny_bind (iv.type.here (wpAny_bind (hb.here ?_)))
  split
  · rename_i q
    have e : subIn K tb (.ref C) = some false := by
      rcases Bool.or_eq_true_iff.mp hn with e | e
      · rw [beq_iff_eq.mp e] at q; simp at q
      · exact beq_iff_eq.mp e
    refine wpAny_bind ((looks_subIn X e).here ?_)
    simp only [Bool.false_eq_true, if_false]
    refine wpAny_bind (wpAny_mono cmp1 (fun r s' z => ?_) fun _ _ e => e)
    obtain ⟨v, rfl, kq⟩ := z
    exact wpAny_pure kq
  · refine wpAny_bind (wpAny_pure ?_)
    simp only [Bool.false_eq_true, if_false]
    refine wpAny_bind (wpAny_mono cmp1 (fun r s' z => ?_) fun _ _ e => e)
    obtain ⟨v, rfl, kq⟩ := z
    exact wpAny_pure kq
end
end AWR

set_option linter.all false
set_option maxRecDepth 100000
set_option maxHeartbeats 4000000
namespace AWR
open PySem PySem.W PyProof.Rows Builtin
section
variable {prog : Program} {w : World} {A : Around} {E : Value → Shared → Prop} {s : Shared} {K : Frag} {x C f : Addr} {ox : Obj} {od : Option Obj} {b tb : Value}
theorem tryM {nm : Str} {Q : Option Value → Shared → Prop} (X : K.In s.heap) (I : InstAt s.heap x ox C od) (hs : findIn K (.ref C) nm = some (some (.ref f))) (hf : isFn K (.ref f) = true)
    (h : wpAny (model prog w) A (call (.ref f) [.ref x, b]) (W.CmpBack fun v => Q (some v)) E s) : wpAny (model prog w) A (tryMethod (.ref x) nm b) Q E s := by
  unfold tryMethod
  refine wpAny_bind (special_fn X I hs (beq_iff_eq.mp hf) (wpAny_mono h (fun v s' hv => ?_) fun _ _ e => e))
  cases v <;> first | exact hv.elim | exact wpAny_pure hv
theorem fills_ty {M : Model} {h : Heap} {n nm : String} {r1 r2 : Option Value} (X : K.In h) (h1 : findIn K (.type n) (PySem.dunder nm) = some r1) (h2 : findIn K (.type n) (PySem.dunderR nm) = some r2) :
    Looks M h (fillsNumberSlot (.type n) nm) ((r1.isSome && !isSeqSlot r1) || (r2.isSome && !isSeqSlot r2)) := by
  unfold fillsNumberSlot
  exact (looks_findIn X h1).andThen ((looks_findIn X h2).andThen .now)
theorem inPy {M : Model} {h : Heap} {nm : String} (X : K.In h) (h1 : findIn K (.ref C) (PySem.dunder nm) = some (some (.ref f))) (h2 : findIn K (.ref C) (PySem.dunderR nm) = some none) :
    Looks M h (numberSlotInPython (.ref C) nm) true := by
  unfold numberSlotInPython
  refine (looks_findIn X h1).andThen ?_
  refine Looks.andThen (a := true) .now ?_
  refine (looks_findIn X h2).andThen ?_
  refine Looks.andThen (a := false) .now ?_
  exact .now
theorem binop_ty {op : Operator} {n : String} {r1 r2 : Option Value} {Q : Value → Shared → Prop} (X : K.In s.heap) (I : InstAt s.heap x ox C od) (hb : Looks (model prog w) s.heap (typeOf b) (.type n)) (hc : selfFirst K C = true)
    (hs : findIn K (.ref C) (PySem.dunder op.info.2) = some (some (.ref f))) (hr : findIn K (.ref C) (PySem.dunderR op.info.2) = some none) (hf : isFn K (.ref f) = true)
    (h1 : findIn K (.type n) (PySem.dunder op.info.2) = some r1) (h2 : findIn K (.type n) (PySem.dunderR op.info.2) = some r2) (hsub : subIn K (.type n) (.ref C) = some false)
    (h : wpAny (model prog w) A (call (.ref f) [.ref x, b]) (W.CmpBack Q) E s) : wpAny (model prog w) A (binaryOp op (.ref x) b) Q E s := by
  obtain ⟨cd, hcd, hm⟩ := any_some hc
  obtain ⟨rest, hm⟩ : ∃ rest, cd.mro = .ref C :: rest := by
    cases q : cd.mro with
    | nil => rw [q] at hm; cases hm
    | cons a r => rw [q] at hm; exact ⟨r, by rw [List.head?_cons] at hm; cases (beq_iff_eq.mp hm); rfl⟩
  unfold binaryOp
  refine wpAny_holding (wpAny_bind ?_)
  unfold binaryOp1
  refine wpAny_bind (I.type.here (wpAny_bind (hb.here (wpAny_bind ((fills_K X hcd hm hs).here ?_)))))
  rw [if_neg (by simp)]
  refine wpAny_bind ((fills_ty X h1 h2).here ?_)
  have last : wpAny (model prog w) A (tryMethod (.ref x) (PySem.dunder op.info.2) b) (fun r s' => ∃ v, r = some v ∧ Q v s') E s := tryM X I hs hf (wpAny_mono h (fun v s' hv => by cases v <;> first | exact hv.elim | exact ⟨_, rfl, hv⟩) fun _ _ e => e)
  cases hR : ((r1.isSome && !isSeqSlot r1) || (r2.isSome && !isSeqSlot r2)) with
  | false =>
    simp only [Bool.and_false, Bool.false_eq_true, if_false, Bool.false_and]
    refine wpAny_bind (wpAny_pure ?_)
    simp only [Bool.false_eq_true, if_false, if_true]
    refine wpAny_bind (m := tryMethod (.ref x) _ b) (wpAny_mono last (fun r s' z => ?_) fun _ _ e => e)
    obtain ⟨v, rfl, hq⟩ := z
    exact wpAny_pure (wpAny_pure hq)
  | true =>
    simp only [Bool.and_true, Bool.and_self, if_true]
    refine wpAny_bind ((looks_subIn X hsub).here ?_)
    simp only [Bool.false_eq_true, if_false]
    simp only [Bool.not_false, if_true]
    refine wpAny_bind ((inPy X hs hr).here ?_)
    simp only [if_true]
    refine wpAny_bind (m := numberSlotInPython (.type n) _) ?_
    refine wpAny_pure ?_
    simp only [Bool.not_false, if_true]
    refine wpAny_bind ((looks_findIn X h2).here ?_)
    refine wpAny_bind (m := tryMethod (.ref x) _ b) (wpAny_mono last (fun r s' z => ?_) fun _ _ e => e)
    obtain ⟨v, rfl, hq⟩ := z
    exact wpAny_pure (wpAny_pure hq)
end
end AWR

set_option linter.all false
set_option maxRecDepth 100000
set_option maxHeartbeats 4000000
namespace AW
open PySem PySem.Spec PyProof.Rows L2
section
variable {X : Cx} {CX : CXT} {k : Nat} {C f : Addr} {fd : FuncData} {ps : List Str} {sp : Sp} {E : XK}
/-- a def of the text runs, at some depth -/
theorem run_in {pins : List (Addr × Obj)} {σ : L2.St} {H : Hp} {s : Shared} {Q : VK} {us : List Value} {vs : List V} {A : Around} (F : FnOk X.prog X.w X.K X.mg X.base CX k f fd ps sp) (hr : Room k A) (fr : A.frames = X.A.frames) (hb : Binds X.K fd ps [])
    (hx : Passes CX X E) (iv : Inv X pins σ H s) (r : Vals vs us) (h : sp vs H Q E) : wpAny (model X.prog X.w) A (call (.ref f) us) (EP X pins σ Q) X.xe s := by
  have hl : (us ++ []).length = ps.length := by rw [List.append_nil, ← r.length]; exact F.len _ _ _ _ h
  have e0 : Env0 X.prog X.w X.K X.mg X.base A X.stack s H := by
    have e := iv.env0
    exact ⟨by rw [fr]; exact e.frames, e.mod, e.bs, e.bsz, e.funs, e.frf, e.hok, e.bare⟩
  refine wpAny_call (codeAny_mono (F.run A X.stack s H ⟨us, []⟩ us vs Q E hr e0 (by simpa using hb s us iv.kIn hl) r h) fun r s' kq => ?_)
  cases r with
  | error e => exact hx pins σ H s e s' iv kq
  | ok fl =>
    cases fl with
    | ret u => exact iv.after kq
    | next => exact False.elim kq
    | brk => exact False.elim kq
    | cont => exact False.elim kq
theorem rr (a : Addr) : L2.RelV (.ref a) (.ref a) := rfl
theorem in1_frames (A : Around) : A.in1.frames = A.frames := rfl
/-- the type of a value, read -/
theorem ty_looks {x : V} {u t : Value} {pins : List (Addr × Obj)} {σ : L2.St} {H : Hp} {s : Shared} (iv : Inv X pins σ H s) (rx : RelV x u) (ty : TyX X.K H x t) : PySem.W.Looks (model X.prog X.w) s.heap (typeOf u) t := by
  obtain ⟨P, Z, p, hx⟩ := kit_of iv rx ty
  exact Z.ty _ _ iv.kIn p
/-- what the class's == (own __eq__, object's __ne__) asks -/
structure EqC (K : PySem.W.Frag) (C f : Addr) : Prop where
  eq : PySem.W.findIn K (.ref C) "__eq__" = some (some (.ref f))
  fn : PySem.W.isFn K (.ref f) = true
  ne : PySem.W.findIn K (.ref C) "__ne__" = some (some (.builtin "object.__ne__"))
  mo : PySem.W.mroIn K C (.type "object") = some true
/-- a == b by the own __eq__ of a -/
def rEqO (K : PySem.W.Frag) (C : Addr) (sp : Sp) (E : XK) (g : Bool → Bool) : R2 := fun x y H Q => ∃ a dx fs t, x = .ref a ∧ H a = some (.ins C dx fs) ∧ TyX K H y t ∧ PySem.W.notFirst K C t = true ∧ sp [x, y] H (fun z H' => ∃ b, z = .bl b ∧ Q (.bl (g b)) H') E
theorem op_eqO (T : EqC X.K C f) (F : FnOk X.prog X.w X.K X.mg X.base CX k f fd ps sp) (hr : Room (k + 1) X.A) (hb : Binds X.K fd ps []) (hx : Passes CX X E) : OpR X (compareOp .Eq) (rEqO X.K C sp E id) := by
  intro pins s σ H x y v u Q iv rx ry kq
  obtain ⟨a, dx, fs, t, rfl, ha, ty, hn, q⟩ := kq
  cases rx
  obtain ⟨mo, jv, _⟩ := ins_get iv.hok ha
  obtain ⟨od, jv, _⟩ := jv.look
  obtain ⟨m, hF⟩ := iv.fr
  show wpAny (model X.prog X.w) X.A (richCompare .Eq (.ref a) u) (EP X pins σ Q) X.xe s
  refine PySem.W.cmp_K (op := .Eq) (tb := t) hr.units0 hF iv.ok.mod.kin jv (ty_looks iv ry ty) hn T.eq T.fn ?_
  refine wpAny_mono (run_in F (hr.mono (Nat.le_succ k)) rfl hb hx iv (.cons (rr a) (.cons ry .nil)) q) (fun z s' h => ?_) fun _ _ z => z
  obtain ⟨z', H', I', rz, b, ez, qz⟩ := h
  subst ez
  cases rz
  exact ⟨.bl b, H', I', rfl, qz⟩
theorem op_neO (T : EqC X.K C f) (F : FnOk X.prog X.w X.K X.mg X.base CX k f fd ps sp) (hr : Room (k + 1) X.A) (hb : Binds X.K fd ps []) (hx : Passes CX X E) : OpR X (compareOp .NotEq) (rEqO X.K C sp E not) := by
  intro pins s σ H x y v u Q iv rx ry kq
  obtain ⟨a, dx, fs, t, rfl, ha, ty, hn, q⟩ := kq
  cases rx
  obtain ⟨mo, jv, _⟩ := ins_get iv.hok ha
  obtain ⟨od, jv, _⟩ := jv.look
  show wpAny (model X.prog X.w) X.A (richCompare .NotEq (.ref a) u) (EP X pins σ Q) X.xe s
  refine AWR.ne_K (tb := t) (hu_of hr) iv.kIn jv (ty_looks iv ry ty) hn T.ne T.mo T.eq T.fn ?_
  refine wpAny_mono (run_in F hr.in1 (in1_frames _) hb hx iv (.cons (rr a) (.cons ry .nil)) q) (fun z s' h => ?_) fun _ _ z => z
  obtain ⟨z', H', I', rz, b, ez, qz⟩ := h
  subst ez
  cases rz
  exact ⟨b, rfl, .bl (!b), H', I', rfl, qz⟩
/-- a op b by a's own method, b of the same class or of a built-in one -/
inductive RtOk (K : PySem.W.Frag) (C : Addr) (op : Operator) : Value → Prop where
  | same : RtOk K C op (.ref C)
  | ty {n : String} {r1 r2 : Option Value} (h1 : PySem.W.findIn K (.type n) (PySem.dunder op.info.2) = some r1) (h2 : PySem.W.findIn K (.type n) (PySem.dunderR op.info.2) = some r2) (hs : PySem.W.subIn K (.type n) (.ref C) = some false) : RtOk K C op (.type n)
structure OpC (K : PySem.W.Frag) (C f : Addr) (op : Operator) : Prop where
  self : PySem.W.selfFirst K C = true
  bop : PySem.W.findIn K (.ref C) (PySem.dunder op.info.2) = some (some (.ref f))
  rop : PySem.W.findIn K (.ref C) (PySem.dunderR op.info.2) = some none
  fn : PySem.W.isFn K (.ref f) = true
def rOpO (K : PySem.W.Frag) (C : Addr) (op : Operator) (sp : Sp) (E : XK) : R2 := fun x y H Q => ∃ a dx fs t, x = .ref a ∧ H a = some (.ins C dx fs) ∧ TyX K H y t ∧ RtOk K C op t ∧ sp [x, y] H Q E
theorem op_ownO {op : Operator} (T : OpC X.K C f op) (F : FnOk X.prog X.w X.K X.mg X.base CX k f fd ps sp) (hr : Room k X.A) (hb : Binds X.K fd ps []) (hx : Passes CX X E) : OpR X (binaryOp op) (rOpO X.K C op sp E) := by
  intro pins s σ H x y v u Q iv rx ry kq
  obtain ⟨a, dx, fs, t, rfl, ha, ty, rt, q⟩ := kq
  cases rx
  obtain ⟨mo, jv, _⟩ := ins_get iv.hok ha
  obtain ⟨od, jv, _⟩ := jv.look
  obtain ⟨m, hF⟩ := iv.fr
  have L := ty_looks iv ry ty
  have go : wpAny (model X.prog X.w) X.A (call (.ref f) [.ref a, u]) (PySem.W.CmpBack (EP X pins σ Q)) X.xe s :=
    wpAny_mono (run_in F hr rfl hb hx iv (.cons (rr a) (.cons ry .nil)) q) (fun z s' h => by
      obtain ⟨z', H', I', rz, qz⟩ := h
      exact SlX.cmpback rz ⟨z', H', I', rz, qz⟩) fun _ _ z => z
  cases rt with
  | same => exact PySem.W.binop_K hF iv.ok.mod.kin jv L T.self T.bop T.fn go
  | ty h1 h2 hs => exact AWR.binop_ty iv.kIn jv L T.self T.bop T.rop T.fn h1 h2 hs go
/-- ~a by a's own method -/
def rUnO (C : Addr) (sp : Sp) (E : XK) : V → Hp → VK → Prop := fun x H Q => ∃ a dx fs, x = .ref a ∧ H a = some (.ins C dx fs) ∧ sp [x] H Q E
theorem un_invO (hs : PySem.W.findIn X.K (.ref C) "__invert__" = some (some (.ref f))) (hf : PySem.W.isFn X.K (.ref f) = true) (F : FnOk X.prog X.w X.K X.mg X.base CX k f fd ps sp) (hr : Room k X.A) (hb : Binds X.K fd ps []) (hx : Passes CX X E) : UnR X (unaryOp .Invert) (rUnO C sp E) := by
  intro pins s σ H x v Q iv rx kq
  obtain ⟨a, dx, fs, rfl, ha, q⟩ := kq
  cases rx
  obtain ⟨mo, jv, _⟩ := ins_get iv.hok ha
  obtain ⟨od, jv, _⟩ := jv.look
  obtain ⟨m, hF⟩ := iv.fr
  exact PySem.W.ksp_inv hF iv.ok.mod.kin jv hs hf (run_in F hr rfl hb hx iv (.cons (rr a) .nil) q)
end
end AW

set_option linter.all false
set_option maxRecDepth 100000
set_option maxHeartbeats 4000000
/-! several except clauses, each with a name -/
namespace AW
open PySem PySem.Spec PyProof.Rows L2
abbrev Clause := Value × Nat × (Addr → Value → Option Addr → TS)
/-- behind a suite the clause's name is gone -/
def unD (D : Ends) (i : Nat) : Ends := { nx := fun σ' H' => D.nx (σ'.set i none) H', rt := D.rt, bk := fun σ' H' => D.bk (σ'.set i none) H', ct := fun σ' H' => D.ct (σ'.set i none) H' }
def wManyA (K : PySem.W.Frag) (Wout : WX) (D : Ends) : List Clause → WX
  | [] => Wout
  | (c, i, ts) :: r => fun cls d σ H => ∃ b, PySem.W.exmOne K cls c = some b ∧ (b = true → ∀ a, H a = none → ts a cls d (unD D i) (σ.set i (some (.ref a))) H) ∧ (b = false → wManyA K Wout D r cls d σ H)
inductive HdsOkA (X : Cx) : List ExceptHandler → List Clause → Prop
  | nil : HdsOkA X [] []
  | cons {x n : Str} {c : Value} {i : Nat} {ts : Addr → Value → Option Addr → TS} {b₀ : Stmt} {suite : List Stmt} {np pos' : Pos} {hds : List ExceptHandler} {l : List Clause} (hi : X.N[i]? = some n) (hln : X.env.kindOf n = some .local) (hc : Names X x c)
      (hsu : ∀ (a : Addr) (oe : Obj) (cls : Value) (d : Option Addr) (pn : List (Addr × Obj)), Zc cls d oe → (∃ vs, oe.data = .fields vs) → PSs (X.suite a ((a, oe) :: pn)) (b₀ :: suite) (ts a cls d)) (r : HdsOkA X hds l) :
      HdsOkA X (.ExceptHandler (some (.Name x np)) (some n) (b₀ :: suite) pos' :: hds) ((c, i, ts) :: l)
section
variable {X : Cx} {body : List Stmt} {h₀ : ExceptHandler} {hds : List ExceptHandler} {l : List Clause} {pos : Pos} {tb : WX → TS} {Wout : WX}
theorem ps_try_manyA (hs : X.stack = X.env :: X.outer) (hf : X.env.frame = some X.env.locals) (hN : X.N.Nodup) (tk : Takes X Wout)
    (hb : ∀ (W : WX) (pn : List (Addr × Obj)) (xe : Value → Shared → Prop), Takes (X.tr pn xe) W → PassesOwn (model X.prog X.w) X.A X.env xe → PSs (X.tr pn xe) body (tb W))
    (hh : HdsOkA X (h₀ :: hds) l) : PS X (.Try body (h₀ :: hds) [] [] pos) (fun D σ H => tb (wManyA X.K Wout D l) D σ H) := by
  refine ⟨fun pn0 s σ H D iv h => ?_⟩
  have okI := iv.ok
  have hFrames : X.A.frames = some (X.env :: X.outer) := by rw [okI.frames, hs]
  refine wpAny_Try_except ?_
  refine wpAny_mono ((hb (wManyA X.K Wout D l) (X.pn ++ pn0) (fun e s₁ => wpAny (model X.prog X.w) X.A (noteFrame e X.env) (fun _ s₂ => wpAny (model X.prog X.w) X.A (setFlight e none) (fun _ s₃ =>
    wpAny (model X.prog X.w) X.A (handleBy e X.env (h₀ :: hds)) (SP X pn0 D) X.xe s₃) X.xe s₂) X.xe s₁) (fun u s' xx => ?_) PassesOwn.looking).run [] s σ H D (iv.toTry _) h) (fun f s1 endp => ?_) (fun e s1 he => he)
  · obtain ⟨a, B, sI, pins', σ', H', cls, d, rfl, jw, nb, up, skA, na, os, ag, w⟩ := xx
    have jv : Inv X pn0 σ' H' sI := jw.ofTry okI
    have skB : Sky B (X.env :: X.outer) a (Zc cls d) X.env.locals s'.heap := by rw [← hs]; exact skA
    show wpAny (model X.prog X.w) X.A (noteFrame (.ref a) X.env) _ _ _
    refine Sky.land Zc.steady hFrames hf skB fun hpC flC upC => ?_
    have jC : Inv X pn0 σ' H' { s' with heap := hpC } := jv.landed nb flC.1 (up.trans upC) os ag
    obtain ⟨obC, vlC, heC, hzC, hdC⟩ := flC.there
    have frNot : ∀ {h : Heap} {o : Obj} {vs : Array Value}, h.FunFrames B (X.env :: X.outer) → h.get? a = some o → o.data = .fields vs → a ∉ frs (X.env :: X.outer) := fun {h o vs} ff e dd hmm => by
      obtain ⟨_, o', e', hnf⟩ := ff.mem hmm
      rw [e] at e'; cases e'
      exact hnf _ dd
    have frA := frNot flC.2.2.1 heC hdC
    have neL : a ≠ X.env.locals := fun z => frA (List.mem_filterMap.mpr ⟨X.env, List.mem_cons_self, by rw [hf, z]⟩)
    have neF : a ∉ X.fs := fun hmm => by
      obtain ⟨e, he, q⟩ := List.mem_filterMap.mp hmm
      exact frA (List.mem_filterMap.mpr ⟨e, List.mem_cons_of_mem _ he, q⟩)
    have suC := jC.suite heC hdC na neL neF
    have walk : ∀ {hds' : List ExceptHandler} {l' : List Clause}, HdsOkA X hds' l' → wManyA X.K Wout D l' cls d σ' H' →
        wpAny (model X.prog X.w) X.A (handleBy (.ref a) X.env hds') (SP X pn0 D) X.xe { s' with heap := hpC } := by
      intro hds' l' hk
      induction hk with
      | nil =>
        intro w
        refine wpAny_handleBy_nil ?_
        obtain ⟨k1, k2, k3, oe, vs, T, oT, ts', he, hz, hd, h1, hr⟩ := id flC
        unfold PySem.passOn
        refine wpAny_bind (wpAny_field he hd h1 ?_)
        rw [if_neg (show ¬ ((Value.ref T == Value.none) = true) from by simp)]
        have out : wpAny (model X.prog X.w) X.A (setFlight (.ref a) X.env.frame) (fun _ s4 => wpAny (model X.prog X.w) X.A (throw (.ref a) : Sem Flow) (SP X pn0 D) X.xe s4) X.xe { s' with heap := hpC } := by
          rw [hf]
          refine HandSPX.setFlight_upZ flC fun hpD hh4 upD => wpAny_throw (tk _ _ ?_)
          exact ⟨a, B, sI, pn0, σ', H', cls, d, rfl, jv, nb, (up.trans upC).trans upD, .inr (.inr (by rw [hs]; exact hh4)), na, os, ag, w⟩
        first
          | exact wpAny_bind (wpAny_pure (wpAny_bind out))
          | exact wpAny_bind out
      | @cons x n c i ts b₀ suite np pos' hds2 l2 hi hln hc hsu r ih =>
        intro w
        obtain ⟨b, hb1, hyes, hno⟩ := w
        have hloc : Loc X.env.scope n := .inl hln
        refine wpAny_handleBy_cons (codeAny_handlers_test ?_) (by intro q; cases q)
        have lkT : PySem.W.Looks (model X.prog X.w) hpC (typeOf (.ref a)) cls := fun A Q E s k q => wpAny_typeOf_ref (k _ _ heC) (by rw [hzC.1]; exact q)
        have lkM := PySem.W.exm_one (M := model X.prog X.w) (jC.kIn) lkT hb1
        have test : ∀ {Q : Value → Shared → Prop} {E : Value → Shared → Prop}, Q c { s' with heap := hpC } → wpAny (model X.prog X.w) (X.A.mark (some (.ref a))) (eval (.Name x np) X.env) Q E { s' with heap := hpC } := fun {Q E} q => by
          obtain ⟨hg, hdbg, hmm | ⟨hmm, hv, hnn⟩⟩ := hc
          · exact ld_glob (X := X.suite a ((a, obC) :: (X.pn ++ pn0))) suC hg hmm q hdbg
          · exact ld_blt (X := X.suite a ((a, obC) :: (X.pn ++ pn0))) suC hg hmm hv q hnn hdbg
        refine test (lkM.here ?_)
        cases b with
        | true =>
          refine codeAny_handlers_suite_as ?_
          refine HandSPX.lands_againZ flC fun hpD flD upD => ?_
          have jD : Inv X pn0 σ' H' { s' with heap := hpD } := jv.landed nb flD.1 ((up.trans upC).trans upD) os ag
          obtain ⟨obD, vlD, heD, hzD, hdD⟩ := flD.there
          have suD := jD.suite heD hdD na neL neF
          refine store_ok (X := X.suite a ((a, obD) :: (X.pn ++ pn0))) (v := .ref a) suD hN hi hloc rfl (fun shE suE => ?_) (.inr hln)
          refine wpAny_mono ((hsu a obD cls d (X.pn ++ pn0) hzD ⟨_, hdD⟩).run [] shE _ H' _ suE (hyes rfl a na)) (fun f shF endp => ?_) (fun _ _ z => False.elim z)
          have end_ : ∀ {stF : L2.St} {hpF : Hp} {Q : Shared → Prop}, Inv (X.suite a ((a, obD) :: (X.pn ++ pn0))) [] stF hpF shF → (∀ shG, Inv X pn0 (stF.set i none) hpF shG → Q shG) →
              wpAny (model X.prog X.w) X.A (do bindName X.env n .none; unbindBehindTheSuite X.env n pos') (fun _ shG => Q shG) X.xe shF := fun {stF hpF Q} suF hq => gone_ok (suF.unsuite okI) hN hi hln hq
          cases f with
          | next =>
            obtain ⟨stF, hpF, suF, qF⟩ := endp
            exact end_ suF fun shG jG => ⟨_, _, jG, qF⟩
          | brk =>
            obtain ⟨stF, hpF, suF, qF⟩ := endp
            exact end_ suF fun shG jG => ⟨_, _, jG, qF⟩
          | cont =>
            obtain ⟨stF, hpF, suF, qF⟩ := endp
            exact end_ suF fun shG jG => ⟨_, _, jG, qF⟩
          | ret u =>
            obtain ⟨vF, stF, hpF, suF, rF, qF⟩ := endp
            exact end_ suF fun shG jG => ⟨_, _, _, jG, rF, qF⟩
        | false =>
          show wpAny _ X.A (handleBy (.ref a) X.env hds2) _ _ _
          exact ih (hno rfl)
    exact walk hh w
  · cases f with
    | next =>
      obtain ⟨σ', H', jw, q⟩ := endp
      exact wpAny_execs_nil ⟨σ', H', jw.ofTry okI, q⟩
    | brk =>
      obtain ⟨σ', H', jw, q⟩ := endp
      exact ⟨σ', H', jw.ofTry okI, q⟩
    | cont =>
      obtain ⟨σ', H', jw, q⟩ := endp
      exact ⟨σ', H', jw.ofTry okI, q⟩
    | ret u =>
      obtain ⟨v, σ', H', jw, r, q⟩ := endp
      exact ⟨v, σ', H', jw.ofTry okI, r, q⟩
end
end AW

set_option linter.all false
set_option maxRecDepth 100000
set_option maxHeartbeats 4000000
/-! lambdas that are kept: made in one place, handed on later -/
namespace AW
open PySem PySem.Spec PyProof.Rows L2 LamX
/-- the function object of a lambda at f, its code object at d -/
def LamO (q : Str) (ar : Arguments) (bd : Expr) (sc : Scope) (cl : List (Str × Addr)) (f d : Addr) : HO :=
  .ext fun g => ∃ (u v : Value), g.get? f = some (PySem.W.kla_obj "<lambda>" q ar bd sc cl u d v)
theorem lamO_tbl {q : Str} {ar : Arguments} {bd : Expr} {sc : Scope} {cl : List (Str × Addr)} {f d : Addr} (ps : Array Value) : LamO q ar bd sc cl f d ≠ .tbl ps := fun z => by
  unfold LamO at z
  cases z
section
variable {X : Cx} {pins : List (Addr × Obj)} {σ : L2.St} {H HZ : Hp} {s s1 : Shared}
theorem nofr_new (I : Inv X pins σ H s) {f : Addr} (hf : s.heap.objs.size ≤ f) : f ∉ frs X.stack := fun z => by
  rcases List.mem_cons.mp (I.stkSub _ z) with e | e
  · have q := I.lt
    rw [← e] at q
    exact Nat.lt_irrefl _ (Nat.lt_of_lt_of_le q hf)
  · exact I.nofs hf e
abbrev lamq (X : Cx) : Str := X.env.qual ++ "<lambda>"
/-- the table at P has told the code object d, or tells it now -/
def Grown (P : Addr) (q : Str) (d : Addr) (H H1 : Hp) : Prop := (∃ (ps : Array Value) (pos : Pos), H P = some (.tbl ps) ∧ codeAmong pos ps.toList = some (.ref d) ∧ H1 = H) ∨
  (∃ (ps : Array Value) (pos : Pos), H P = some (.tbl ps) ∧ H d = none ∧ H1 = upd (upd H P (.tbl (ps ++ #[rawInt pos.line, rawInt pos.col, .ref d]))) d (CodeO d q))
theorem tabs_grow {T : List (Addr × Str)} {G : Hp} {P d : Addr} {q : Str} {ps : Array Value} {pos : Pos} (hT : Tabs T G) (hm : (P, q) ∈ T) (hu : ∀ p ∈ T, p.1 = P → p.2 = q) (hP : G P = some (.tbl ps)) (nD : G d = none) :
    Tabs T (upd (upd G P (.tbl (ps ++ #[rawInt pos.line, rawInt pos.col, .ref d]))) d (CodeO d q)) := by
  obtain ⟨ps', hP', ht, ha⟩ := hT _ hm
  rw [hP] at hP'
  cases hP'
  have keep : ∀ c r, G c = some (CodeO c r) → upd (upd G P (.tbl (ps ++ #[rawInt pos.line, rawInt pos.col, .ref d]))) d (CodeO d q) c = some (CodeO c r) := fun c r e => by
    have b2 : c ≠ P := fun z => by subst z; rw [hP] at e; exact codeO_ne ps (Option.some.inj e).symm
    rw [upd_ne (ne_of_none e nD), upd_ne b2]
    exact e
  intro p hp
  by_cases hb : p.1 = P
  · rw [hu p hp hb, hb]
    refine ⟨_, by rw [upd_ne (ne_of_none hP nD), upd_same], ?_, fun p' cv hcv => ?_⟩
    · rw [Array.toList_append]
      exact PySem.TriplesOk_snoc _ _ _ _ ht
    · rw [Array.toList_append] at hcv
      rcases among_app _ ht hcv with z | z
      · obtain ⟨c0, z1, z2⟩ := ha p' cv z
        exact ⟨c0, z1, keep _ _ z2⟩
      · exact ⟨d, z, upd_same⟩
  · obtain ⟨ps2, z1, z2, z3⟩ := hT p hp
    refine ⟨ps2, by rw [upd_ne (ne_of_none z1 nD), upd_ne hb]; exact z1, z2, fun p' cv hcv => ?_⟩
    obtain ⟨c0, w1, w2⟩ := z3 p' cv hcv
    exact ⟨c0, w1, keep _ _ w2⟩
theorem lam_kept {T : List (Addr × Str)} {c P : Addr} {ar : Arguments} {bd : Expr} {sc : Scope} {pos : Pos} {E Q : Value → Shared → Prop} (I : Inv X pins σ H s) (TB : TabB X.base X.mg c P) (hc0 : X.env.code = .ref c)
    (hm : (P, lamq X) ∈ T) (hT : Tabs T H) (hdef : defaultsOf ar X.env = ([], [])) (hfr : ∀ y ∈ sc.names, y.2 = .free → ∃ c, X.env.cells.lookup y.1 = some c)
    (h : ∀ (f d : Addr) (H1 : Hp) (s' : Shared), Inv X pins σ (upd H1 f (LamO (lamq X) ar bd sc (cloFrom X.env.cells sc.names []) f d)) s' → Grown P (lamq X) d H H1 → H1 f = none → Q (.ref f) s') :
    wpAny (model X.prog X.w) X.A (eval (.Lambda ar bd sc pos) X.env) Q E s := by
  obtain ⟨ps, hP, ht, ha⟩ := hT _ hm
  have bP := TB.bm.keeps I.bk
  have hP2 : s.heap.get? P = some { cls := .none, data := .fields ps } := I.hok P _ hP
  -- the object laid behind all others
  have lay : ∀ (H1 : Hp) (g : Heap) (tk : Nat) (d : Addr) (m v : Value), Inv X pins σ H1 { s with heap := g, toks := tk } → Grown P (lamq X) d H H1 →
      Q (.ref g.objs.size) { s with heap := g.push (PySem.W.kla_obj "<lambda>" (lamq X) ar bd sc (cloFrom X.env.cells sc.names []) m d v), toks := tk } := fun H1 g tk d m v J e1 =>
    h g.objs.size d H1 _ (J.laid (t' := tk) (fun b o e => Heap.get?_push_of_some _ e) (Nat.le_refl _)
      ⟨⟨m, v, Heap.get?_push_size _ rfl⟩, ⟨_, Heap.get?_push_size _ rfl⟩, fun g1 g2 ⟨u1, u2, k⟩ st => ⟨u1, u2, st _ k⟩⟩) e1 (J.hok.fresh (Nat.le_refl _))
  refine PySem.W.kla_eval hdef ?_
  cases hcod : codeAmong pos ps.toList with
  | some cv =>
    obtain ⟨d, ed, hd⟩ := ha pos cv hcod
    subst ed
    refine PySem.W.kla_makeFunctionHit (mg := X.mg) (c := c) (P := P) (ps := ps) (closure_ok hfr) I.ok.glob (I.mod.glob.keeps I.bk) hc0 (TB.code.keeps I.bk) hP2 ht hcod bP fun v g tk hx hsz => ?_
    exact lay H g tk d _ v (I.kept fun b o e => hx b o e) (.inl ⟨ps, pos, hP, hcod, rfl⟩)
  | none =>
    refine PySem.W.kla_makeFunction (mg := X.mg) (c := c) (P := P) (ps := ps) (closure_ok hfr) I.ok.glob (I.mod.glob.keeps I.bk) hc0 (TB.code.keeps I.bk) hP2 ht hcod TB.gP bP fun d v g tk hx hge hlt hrec htb => ?_
    obtain ⟨d2, oc, vs, t, e2, k1, k2, k3⟩ := hrec
    cases e2
    have nD : H d = none := I.hok.fresh hge
    have J := inv_table (t' := tk) (more := #[rawInt pos.line, rawInt pos.col, .ref d]) (h' := g) I hP (fun b o hb e => hx b o hb e) htb hge ⟨oc, vs, t, k1, k2, k3⟩
    exact lay _ g tk d _ v J (.inr ⟨ps, pos, hP, nD, rfl⟩)
/-- the reading of a lambda that is kept -/
def tLamV (T : List (Addr × Str)) (P : Addr) (q : Str) (mk : Addr → Addr → HO) : TE := fun _ H Q => Tabs T H ∧ ∀ f d H1, Grown P q d H H1 → H1 f = none → Q (.ref f) (upd H1 f (mk f d))
theorem pe_lamval {T : List (Addr × Str)} {c P : Addr} {ar : Arguments} {bd : Expr} {sc : Scope} {pos : Pos} (TB : TabB X.base X.mg c P) (hc0 : X.env.code = .ref c) (hm : (P, lamq X) ∈ T)
    (L : LamS X.env.scope sc) (hdef : defaultsOf ar X.env = ([], [])) : PE X (.Lambda ar bd sc pos) (tLamV T P (lamq X) (LamO (lamq X) ar bd sc (cloFrom X.env.cells sc.names []))) :=
  ⟨fun pins s σ H Q I ⟨hT, k⟩ => lam_kept I TB hc0 hm hT hdef (L.has I.ok) fun f d H1 s' J g n1 => ⟨.ref f, _, J, rfl, k f d H1 g n1⟩⟩
/-- a kept lambda is called by the def that got it -/
theorem act_kept {CXg : CXT} {Eg : XK} {Ng : List Str} {qg : Str} {sg : Scope} {g f d : Addr} {cdg : Value} {ar : Arguments} {bd : Expr} {sc : Scope} {k i : Nat} {a : Str} {pn : List (Addr × Obj)} {xe : Value → Shared → Prop} {W : WX} {E : XK} {tb : TE} {p1 p2 : Pos}
    (I : Inv X pins σ H s) (L : LamS X.env.scope sc)
    (hbind : ∀ (cl : List (Str × Addr)) (pm cv ctv : Value), bindArgs (PySem.W.kla_fn "<lambda>" (lamq X) ar bd sc cl pm cv ctv) ⟨[], []⟩ = pure [])
    (tk : Takes ((cxOf CXg X.prog X.w X.K X.mg X.base Ng qg sg g cdg X.A X.stack s H Eg).tr pn xe) W) (hW : ∀ cls x σ' H', E cls x H' → W cls x σ' H') (hr : Room (k + 1) (X.A.deeper (envOfC qg sg s.heap.objs.size g cdg)))
    (hbody : ∀ (A : Around) (outer : List Env) (s : Shared) (H : Hp), Room k (A.deeper (lamEnv X sc s.heap.objs.size f d)) → PE (lamCx X A outer s H E sc f d) bd tb)
    (hN : Ng[i]? = some a) (hv : Vis sg a) (hd : (a == ("__debug__" : Str)) = false) (hcd : (a == ("__classdict__" : Str)) = false) :
    PE ((cxOf CXg X.prog X.w X.K X.mg X.base Ng qg sg g cdg X.A X.stack s H Eg).tr pn xe) (.Call (.Name a p1) [] [] p2)
      (fun σZ HZ Q => σZ[i]? = some (some (.ref f)) ∧ HZ f = some (LamO (lamq X) ar bd sc (cloFrom X.env.cells sc.names []) f d) ∧ HZ d = some (CodeO d (lamq X)) ∧ tb σ HZ Q) := by
  refine ⟨fun pz sz σz HZ Q J ⟨g1, g2, g3, g4⟩ => ?_⟩
  have ld := (pe_var (pos := p1) (i := i) hN hv hd hcd).run pz sz σz HZ (fun v H1 => v = .ref f ∧ H1 = HZ) J ⟨.ref f, g1, rfl, rfl⟩
  refine wpAny_Call_Name_kw (thn ld fun u s2 ⟨v, H1, J1, r1, ev, eH⟩ => ?_)
  subst ev
  subst eH
  obtain rfl : u = Value.ref f := r1
  obtain ⟨⟨pm, ctv, obj⟩, _, _⟩ := J1.hok f _ g2
  obtain ⟨⟨oc, vs, t, co1, co2, co3⟩, _, _⟩ := J1.hok d _ g3
  refine PySem.W.callWith_F0 ⟨_, _, _, _, obj⟩ ?_
  have u1 : Un (frs X.stack) [] H H1 s.heap s2.heap := J1.base
  have e1 := J1.env0
  have run : codeAny (model X.prog X.w) (X.A.deeper (envOfC qg sg s.heap.objs.size g cdg)) (.call (.ref f) ⟨[], []⟩) (CR (L2.CX X.prog X.w) (envOfC qg sg s.heap.objs.size g cdg :: X.stack) X.prog X.w H1 s2 Q E) s2 := by
    refine PySem.W.kla_callFunE hr.depth obj rfl L.co L.gen rfl ⟨d, oc, vs, t, rfl, co1, co2, co3⟩ ?_
    rw [hbind]
    refine wpAny_pure (wpAny_newFunctionEnv (fun y hy => (L.own y hy).2) (fun y hy => nomatch hy) (fun h1 q1 q2 => ⟨J1.nolimit.fresh _ q2, ?_⟩) L.kind)
    have kp : ∀ b o, s2.heap.get? b = some o → h1.get? b = some o := fun b o e => by
      refine q2.extBut b o ?_ (Heap.get?_push_of_some _ e)
      exact Nat.ne_of_lt (Heap.lt_size e)
    have st := lam_start2 (A := X.A.deeper (envOfC qg sg s.heap.objs.size g cdg)) (outer := envOfC qg sg s.heap.objs.size g cdg :: X.stack) (E := E) (f := f) (c' := d) (tk := s2.toks + ([] : List (Str × Value)).length) I L e1 hr.hd u1 q1 kp
    refine PySem.W.kla_codeExpr (wpAny_mono ((hbody _ _ s2 H1 (hr.deeper _)).run [] _ _ H1 Q st g4) ?_ fun e s' z => z)
    rintro v s' ⟨w', H', J', rv, z⟩
    exact ⟨w', H', J'.os, J'.bare, J'.base, J'.hok, rv, z⟩
  have ps := passes_call tk hW
  refine wpAny_call (codeAny_mono run fun r s' z => ?_)
  match r, z with
  | .error e, z => exact ps pz σz H1 s2 e s' J1 z
  | .ok (.ret u), z => exact J1.after z
/-- a def that calls the kept lambda it got -/
def GivesK (X : Cx) (Ng : List Str) (x : Str) (sg : Scope) (g : Addr) (cdg : Value) (bg : List Stmt) (a : Str) (q : Str) (mk : Addr → Addr → HO) (TT : (XK → Hp → VK → Prop) → Hp → VK → Prop) : Prop :=
  ∀ (f d : Addr) (s : Shared) (H : Hp) (Q : VK) (tl : XK → Hp → VK → Prop),
    (∀ (W : WX) (pn : List (Addr × Obj)) (xe : Value → Shared → Prop) (E : XK) (p1 p2 : Pos), Takes ((cxOf C8.CX0 X.prog X.w X.K X.mg X.base Ng x sg g cdg X.A X.stack s H C8.E0).tr pn xe) W → (∀ cls d σ' H', E cls d H' → W cls d σ' H') →
      PE ((cxOf C8.CX0 X.prog X.w X.K X.mg X.base Ng x sg g cdg X.A X.stack s H C8.E0).tr pn xe) (.Call (.Name a p1) [] [] p2)
        (fun σZ HZ Q => σZ[0]? = some (some (.ref f)) ∧ HZ f = some (mk f d) ∧ HZ d = some (CodeO d q) ∧ tl E HZ Q)) →
    H f = some (mk f d) → H d = some (CodeO d q) → TT tl H Q →
    ∃ t, PSs (cxOf C8.CX0 X.prog X.w X.K X.mg X.base Ng x sg g cdg X.A X.stack s H C8.E0).nox bg t ∧ t { nx := fun _ H' => Q .non H', rt := Q } (L2.start Ng [.ref f]) H
/-- x(y), y a kept lambda -/
def tCallK (j : Nat) (q : Str) (mk : Addr → Addr → HO) (TT : (XK → Hp → VK → Prop) → Hp → VK → Prop) (t : XK → TE) : TE := fun σ H Q =>
  ∃ f d, σ[j]? = some (some (.ref f)) ∧ H f = some (mk f d) ∧ H d = some (CodeO d q) ∧ TT (fun E H' Q' => t E σ H' Q') H Q
theorem pe_callK {TT : (XK → Hp → VK → Prop) → Hp → VK → Prop} {x a y : Str} {g : Addr} {k j : Nat} {pg : Arguments} {bg : List Stmt} {sg : Scope} {dV kV doc pm cdv ct oc : Value} {an od : Option Addr} {osl : Array (Option Value)} {Ng : List Str}
    {ar : Arguments} {bd : Expr} {sc : Scope} {t : XK → TE} {p py pos : Pos} (hg : Gl X x) (hm : X.mg x = some (.ref g)) (hk : PySem.W.keepIn X.K (.ref g) = true)
    (lk : X.K.lookup g = some ⟨oc, od, .func (PySem.W.fnOf x x pg bg sg dV kV doc pm an cdv ct), osl⟩) (hcg : PySem.W.codeIn X.K cdv x = true) (hb : L2.Binds X.K (PySem.W.fnOf x x pg bg sg dV kV doc pm an cdv ct) [a] []) (Sg : FnScope Ng [a] sg) (hNg : Ng[0]? = some a) (hva : Vis sg a)
    (hG : GivesK X Ng x sg g cdv bg a (lamq X) (LamO (lamq X) ar bd sc (cloFrom X.env.cells sc.names [])) TT)
    (hr : Room (k + 2) X.A) (L : LamS X.env.scope sc)
    (hbind : ∀ (q : Str) (cl : List (Str × Addr)) (pm cv ctv : Value), bindArgs (PySem.W.kla_fn "<lambda>" q ar bd sc cl pm cv ctv) ⟨[], []⟩ = pure [])
    (hy : PE X (.Name y py) (tVar j))
    (hbody : ∀ (A : Around) (outer : List Env) (s : Shared) (H : Hp) (E : XK) (f d : Addr), Room k (A.deeper (lamEnv X sc s.heap.objs.size f d)) → PE (lamCx X A outer s H E sc f d) bd (t E))
    (hdb : (x == ("__debug__" : Str)) = false := by decide) (hd : (a == ("__debug__" : Str)) = false := by decide) (hcd : (a == ("__classdict__" : Str)) = false := by decide) :
    PE X (.Call (.Name x p) [.Name y py] [] pos) (tCallK j (lamq X) (LamO (lamq X) ar bd sc (cloFrom X.env.cells sc.names [])) TT t) := by
  refine ⟨fun pins s σ H Q I ⟨f, d, g1, g2, g3, g4⟩ => ?_⟩
  refine wpAny_Call_Name_kw (ld_glob I hg hm ?_ hdb)
  refine PySem.W.callWith_K (h₀ := X.base) I.ok.mod.kin hk ?_ (by rfl) (by rfl)
  refine Calls.spliced_cons (thn (hy.run pins s σ H (fun v H1 => v = .ref f ∧ H1 = H) I ⟨.ref f, g1, rfl, rfl⟩) fun u s2 ⟨v, H1, J, r1, ev, eH⟩ => ?_)
  subst ev
  subst eH
  obtain rfl : u = Value.ref f := r1
  refine Calls.spliced_nil ⟨J.kIn, ?_⟩
  have run : codeAny (model X.prog X.w) X.A (.call (.ref g) ⟨[.ref f], []⟩) (CR C8.CX0 X.stack X.prog X.w H1 s2 Q C8.E0) s2 := by
    refine run_ofS (N := Ng) (ps := [a]) (us := [.ref f]) (vs := [.ref f]) lk hcg Sg hr J.env0 (hb s2 [.ref f] J.kIn rfl) (.cons rfl .nil) rfl fun hr2 => ?_
    obtain ⟨t2, ht, hq⟩ := hG f d s2 H1 Q (fun E H' Q' => t E σ H' Q') (fun W pn xe E p1 p2 tk hW => act_kept (i := 0) J L (fun cl pm cv ctv => hbind _ cl pm cv ctv) tk hW hr2 (fun A outer s H hr3 => hbody A outer s H E f d hr3) hNg hva hd hcd) g2 g3 g4
    exact ⟨t2, ht.nox, hq⟩
  refine wpAny_call (codeAny_mono run fun r s' z => ?_)
  match r, z with
  | .error e, z => exact (show False from z).elim
  | .ok (.ret u), z => exact J.after z
end
end AW

set_option linter.all false
set_option maxRecDepth 100000
set_option maxHeartbeats 4000000
/-! a list comprehension whose element may look at its maker's own state; kept lambdas called there -/
namespace AW
open PySem PySem.Spec PyProof.Rows L2 LamX
section
variable {X : Cx}
abbrev cEnv (X : Cx) (sc : Scope) (n : Nat) : Env := compEnvC sc (cellsFrom (n + 1) sc.names (cloFrom X.env.cells sc.names [])) n X.env
theorem pe_lcI {elt tg iter : Expr} {sc : Scope} {own : List (Str × Nat)} {pos : Pos} {wi : TI} {g : TG} {te : TE} (calm : X.calm = true) (hN : X.N.Nodup) (hi : PI X tg iter wi) (ok : BlkOk X.N X.env.scope sc own)
    (hg : ∀ (s : Shared) (H : Hp) (C : Addr) (cl : List (Str × Addr)) (fp : List Addr), PG (X.blk s H sc (compEnvC sc cl C X.env) fp) tg g)
    (he : ∀ (pins : List (Addr × Obj)) (σ : L2.St) (s : Shared) (H : Hp) (C : Addr) (cl : List (Str × Addr)) (fp : List Addr), Inv X pins σ H s → (∀ b ∈ fp, FpOk X pins H b) →
      PE (X.blk s H sc (compEnvC sc cl C X.env) fp) elt (fun σ' H' Q' => wipe σ' (own.map (·.2)) = wipe σ (own.map (·.2)) ∧ te σ' H' Q'))
    (hs : ∀ x, foldedSetIterable iter X.env x = pure x := by intro _; rfl) :
    PE X (.ListComp elt [⟨tg, iter, [], 0⟩] sc pos) (tLc wi g tYes te (own.map (·.2))) := by
  refine ⟨fun pins s σ H Q I h => ?_⟩
  have fr : ∀ y ∈ sc.names, y.2 = .free → ∃ c, X.env.cells.lookup y.1 = some c := fun y hy e =>
    (ok.free y hy e).elim (fun k => I.ok.has _ (.inl k)) fun k => I.ok.has _ (.inr k)
  rw [eval_ListComp]
  refine wpAny_comprehension_free rfl hs (closure_ok fr) ok.kind (fun y hy e => by rw [ok.uniq y hy, e]) ?_
  refine thn (hi.run pins s σ H _ I h) fun _ sa ha => thn ha fun _ sb hb => ?_
  obtain ⟨it, fp, tn, J, Hb, eit, Ib, T, stb, fb, q⟩ := hb
  subst eit
  refine wpAny_newObj_type (newEnv_comp ?_) (Nat.zero_le _)
  obtain ⟨D, eD⟩ : ∃ D, sb.heap.objs.size = D := ⟨_, rfl⟩
  rw [eD]
  have nD : Hb D = none := Ib.hok.fresh (Nat.le_of_eq eD)
  obtain ⟨W, ⟨m0, w0⟩, turn⟩ := q D nD
  generalize e3 : ({ sb with heap := sb.heap.push { cls := .type "list", data := .seq ([] : List Value).toArray } } : Shared) = sc3
  have hp3 : sc3.heap = sb.heap.push { cls := .type "list", data := .seq ([] : List Value).toArray } := by rw [← e3]
  have kp3 : ∀ b o, sb.heap.get? b = some o → sc3.heap.get? b = some o := fun b o e => by
    rw [hp3]
    exact Heap.get?_push_of_some _ e
  have Ic : Inv X pins σ (upd Hb D (.lst [])) sc3 := by
    subst e3
    refine Ib.laid (t' := sb.toks) (fun b o e => Heap.get?_push_of_some _ e) (Nat.le_of_eq eD) ⟨Nat.zero_le _, [], 0, .nil, ?_⟩
    subst eD
    exact Heap.get?_push_size _ rfl
  have fc : ∀ b ∈ fp, FpOk X pins (upd Hb D (.lst [])) b ∧ b < sc3.heap.objs.size := fun b hb => by
    obtain ⟨o, eo, _⟩ := T.obj _ _ stb b hb
    have lt := Heap.lt_size eo
    refine ⟨⟨?_, (fb b hb).2⟩, ?_⟩
    · rw [upd_ne (Nat.ne_of_lt (eD ▸ lt))]
      exact (fb b hb).1
    · rw [hp3, Heap.size_push]
      exact Nat.lt_succ_of_lt lt
  have stc : tn 0 sc3.heap := T.keep _ _ _ stb fun b _ o e => kp3 b o e
  have Id := block_start Ic ok hN fc
  have pg := hg sc3 (upd Hb D (.lst [])) sc3.heap.objs.size (cellsFrom (sc3.heap.objs.size + 1) sc.names (cloFrom X.env.cells sc.names [])) fp
  have pe := he pins σ sc3 (upd Hb D (.lst [])) sc3.heap.objs.size (cellsFrom (sc3.heap.objs.size + 1) sc.names (cloFrom X.env.cells sc.names [])) fp Ic (fun b hb => (fc b hb).1)
  have std : tn 0 (pushCells (sc3.heap.push { cls := .type "dict", data := .dict #[] }) sc.names) := T.keep _ _ _ stc fun b _ o e => pushCells_keeps _ _ _ _ (Heap.get?_push_of_some _ e)
  have fin : ∀ (Hz : Hp) (sz : Shared), Inv (X.blk sc3 (upd Hb D (.lst [])) sc (cEnv X sc sc3.heap.objs.size) fp) [] (wipe σ (own.map (·.2))) Hz sz → Q (.ref D) Hz →
      compPost (model X.prog X.w) X.A X.xe none (EP X pins σ Q) (.ref D) sc3.heap.objs.size (.ok .next) sz := fun Hz sz J qz => by
    have back : Inv X pins σ Hz sz := Ic.call' (ch := fp) J.os J.base J.hok J.bare fun b hb => by
      obtain ⟨_, z1, z2, z3, z4, z5⟩ := (fc b hb).1
      exact ⟨z3, z1, z4, z5⟩
    have nC : Hz sc3.heap.objs.size = none := J.free
    obtain ⟨m, hn, _⟩ := J.loc
    obtain ⟨_, z1, z2, z3, z4, z5⟩ := Ic.fpOk (Nat.le_refl _) nC
    exact ⟨m, hn, fun h2 sb2 => ⟨.ref D, Hz, back.turned (t' := sz.toks) (fun b o hb e => (sb2.2 b hb).trans e) nC z1 z3 z4 z5, rfl, qz⟩⟩
  have nfp : ∀ b ∈ fp, (upd Hb D (.lst [])) b = none := fun b hb => (fc b hb).1.1
  obtain ⟨ce, ece⟩ : ∃ z, cEnv X sc sc3.heap.objs.size = z := ⟨_, rfl⟩
  show codeAny _ _ (.compStart (.ListComp elt [⟨tg, iter, [], 0⟩] sc pos) 0 (.ref it) (.ref D) (cEnv X sc sc3.heap.objs.size)) _ _
  rw [show compEnvC sc (cellsFrom (sc3.heap.objs.size + 1) sc.names (cloFrom X.env.cells sc.names [])) sc3.heap.objs.size X.env = ce from ece] at Id pg pe
  rw [ece] at fin ⊢
  obtain ⟨Hc, eHc⟩ : ∃ z, upd Hb D (.lst []) = z := ⟨_, rfl⟩
  rw [eHc] at Ic Id pg pe w0 nfp fc fin
  obtain ⟨sd, esd⟩ : ∃ z : Shared, ({ sc3 with heap := pushCells (sc3.heap.push { cls := .type "dict", data := .dict #[] }) sc.names } : Shared) = z := ⟨_, rfl⟩
  rw [esd] at Id
  have std' : tn 0 sd.heap := by
    rw [← esd]
    exact std
  have own' : ∀ {σ' : L2.St} {H' : Hp} {s' : Shared} {pn : List (Addr × Obj)}, Inv (X.blk sc3 Hc sc ce fp) pn σ' H' s' → pn = [] → (∀ b ∈ fp, H' b = none) → ∀ b ∈ fp, FpOk (X.blk sc3 Hc sc ce fp) pn H' b := fun {σ' H' s' pn} J ep nz b hb => by
    subst ep
    have ex := J.ok.exf b hb
    exact ⟨nz b hb, ex.1, J.ok.exfs b hb, .inl hb, fun x c e => ex.2 x c e, fun p hp => nomatch (show p ∈ ([] : List (Addr × Obj)) from hp)⟩
  have loop : codeAny (model X.prog X.w) X.A (.compLoop (.ListComp elt [⟨tg, iter, [], 0⟩] sc pos) 0 (.ref it) (.ref D) ce) (compPost (model X.prog X.w) X.A X.xe none (EP X pins σ Q) (.ref D) sc3.heap.objs.size) sd := by
    refine compLoop_any (fun n s' => ∃ i H', Inv (X.blk sc3 Hc sc ce fp) [] (wipe σ (own.map (·.2))) H' s' ∧ tn i s'.heap ∧ (∀ b ∈ fp, H' b = none) ∧ W i n H') ?_ m0 ⟨0, Hc, Id, std', nfp, w0⟩
    rintro n s5 ⟨i, H5, J5, t5, n5, w5⟩
    rcases turn i n H5 w5 with ⟨stop, qq⟩ | ⟨go, Nx, hNx, step⟩
    · refine thnF (T.done (X.blk sc3 Hc sc ce fp) rfl rfl rfl calm i [] s5 _ H5 (fun _ _ => False) J5 (own' J5 rfl n5) t5 stop) fun r s6 ⟨er, J6⟩ => ?_
      subst er
      exact fin H5 s6 J6 qq
    · refine thnF (T.item (X.blk sc3 Hc sc ce fp) rfl rfl rfl calm i [] s5 _ H5 (fun _ _ => False) J5 (own' J5 rfl n5) t5 go) fun r s6 ⟨u, er, h6⟩ => ?_
      subst er
      refine thnF h6 fun _ s7 ⟨x, H7, J7, r7, y7, t7, n7⟩ => ?_
      have J7p := J7.pinned (own' J7 rfl n7) (T.obj _ _ t7)
      refine thnF (pg.run _ s7 _ H7 x u _ J7p r7 (step x H7 y7)) fun _ s8 ⟨σ8, H8, J8, hw8, q8⟩ => ?_
      refine thnF ((pts_nil (X := X.blk sc3 Hc sc ce fp)).run _ s8 σ8 H8 _ J8 q8) fun b s9 ⟨H9, J9, q9⟩ => ?_
      have next : ∀ (s' : Shared) (H' : Hp), Inv (X.blk sc3 Hc sc ce fp) ([] ++ pinsAt fp s7.heap) σ8 H' s' → Nx H' → ∃ m, m < n ∧ ∃ i H', Inv (X.blk sc3 Hc sc ce fp) [] (wipe σ (own.map (·.2))) H' s' ∧ tn i s'.heap ∧ (∀ b ∈ fp, H' b = none) ∧ W i m H' := fun s' H' J nx => by
        obtain ⟨m', lt, w'⟩ := hNx H' nx
        have at_ : ∀ b ∈ fp, ∀ o, s7.heap.get? b = some o → s'.heap.get? b = some o ∧ H' b = none := fun b hb o e => by
          have z := J.pin (b, o) (List.mem_append_right _ (List.mem_append_right _ (mem_pinsAt hb e)))
          exact ⟨z.1, z.2.1⟩
        refine ⟨m', lt, i + 1, H', (J.unpinned (pins := [])).weak (by rw [← hw8, wipe_length]) (fun j v e => ?_), T.keep _ _ _ t7 (fun b hb o e => (at_ b hb o e).1), (fun b hb => ?_), w'⟩
        · rw [← hw8] at e
          exact (wipe_some e).1
        · obtain ⟨o, e, _⟩ := T.obj _ _ t7 b hb
          exact (at_ b hb o e).2
      match b, q9 with
      | false, q9 =>
        rw [if_neg Bool.false_ne_true] at q9 ⊢
        exact next s9 H9 J9 q9
      | true, q9 =>
        rw [if_pos rfl] at q9 ⊢
        refine thnF (pe.run _ s9 σ8 H9 _ J9 ⟨hw8, q9⟩) fun z s10 ⟨yv, H10, J10, r10, acc, h10, z10, nx⟩ => ?_
        exact app_ok (X := X.blk sc3 Hc sc ce fp) J10 h10 z10 r10 fun s11 J11 => next s11 _ J11 nx
  rw [esd]
  exact codeAny_compStart_list loop (T.self X.A 0 _ _ _ std' loop)
/-- x(y) in a comprehension's block, y a lambda that the block's maker keeps; the lambda sees the maker's state -/
def tCallB (j : Nat) (vs : List Nat) (q : Str) (mk : Addr → Addr → HO) (TT : (XK → Hp → VK → Prop) → Hp → VK → Prop) (t : XK → TE) : TE := fun σ H Q =>
  ∃ f d, σ[j]? = some (some (.ref f)) ∧ H f = some (mk f d) ∧ H d = some (CodeO d q) ∧ TT (fun E H' Q' => t E (wipe σ vs) H' Q') H Q
theorem pe_callBl {pins0 : List (Addr × Obj)} {σ0 : L2.St} {s0 : Shared} {H0 : Hp} {C : Addr} {cl : List (Str × Addr)} {fp : List Addr} {scb : Scope} {vs : List Nat} (I0 : Inv X pins0 σ0 H0 s0) (hfp : ∀ b ∈ fp, FpOk X pins0 H0 b)
    {TT : (XK → Hp → VK → Prop) → Hp → VK → Prop} {x a y : Str} {g : Addr} {k j : Nat} {pg : Arguments} {bg : List Stmt} {sg : Scope} {dV kV doc pm cdv ct oc : Value} {an od : Option Addr} {osl : Array (Option Value)} {Ng : List Str}
    {ar : Arguments} {bd : Expr} {sc : Scope} {t : XK → TE} {p py pos : Pos} (hg : Gl (X.blk s0 H0 scb (compEnvC scb cl C X.env) fp) x) (hm : X.mg x = some (.ref g)) (hk : PySem.W.keepIn X.K (.ref g) = true)
    (lk : X.K.lookup g = some ⟨oc, od, .func (PySem.W.fnOf x x pg bg sg dV kV doc pm an cdv ct), osl⟩) (hcg : PySem.W.codeIn X.K cdv x = true) (hb : L2.Binds X.K (PySem.W.fnOf x x pg bg sg dV kV doc pm an cdv ct) [a] []) (Sg : FnScope Ng [a] sg) (hNg : Ng[0]? = some a) (hva : Vis sg a)
    (hG : GivesK X Ng x sg g cdv bg a (lamq X) (LamO (lamq X) ar bd sc (cloFrom X.env.cells sc.names [])) TT)
    (hr : Room (k + 2) X.A) (L : LamS X.env.scope sc)
    (hbind : ∀ (q : Str) (cl : List (Str × Addr)) (pm cv ctv : Value), bindArgs (PySem.W.kla_fn "<lambda>" q ar bd sc cl pm cv ctv) ⟨[], []⟩ = pure [])
    (hy : PE (X.blk s0 H0 scb (compEnvC scb cl C X.env) fp) (.Name y py) (tVar j))
    (hbody : ∀ (A : Around) (outer : List Env) (s : Shared) (H : Hp) (E : XK) (f d : Addr), Room k (A.deeper (lamEnv X sc s.heap.objs.size f d)) → PE (lamCx X A outer s H E sc f d) bd (t E))
    (hdb : (x == ("__debug__" : Str)) = false := by decide) (hd : (a == ("__debug__" : Str)) = false := by decide) (hcd : (a == ("__classdict__" : Str)) = false := by decide) :
    PE (X.blk s0 H0 scb (compEnvC scb cl C X.env) fp) (.Call (.Name x p) [.Name y py] [] pos)
      (fun σ' H' Q' => wipe σ' vs = wipe σ0 vs ∧ tCallB j vs (lamq X) (LamO (lamq X) ar bd sc (cloFrom X.env.cells sc.names [])) TT t σ' H' Q') := by
  refine ⟨fun pins s σ H Q I ⟨hw, f, d, g1, g2, g3, g4⟩ => ?_⟩
  refine wpAny_Call_Name_kw (ld_glob I hg hm ?_ hdb)
  refine PySem.W.callWith_K (h₀ := X.base) I.ok.mod.kin hk ?_ (by rfl) (by rfl)
  have ld := hy.run pins s σ H (fun v H1 => v = .ref f ∧ H1 = H) I ⟨.ref f, g1, rfl, rfl⟩
  refine Calls.spliced_cons (thn ld fun u s2 ⟨v, H1, J, r1, ev, eH⟩ => ?_)
  subst ev
  subst eH
  obtain rfl : u = Value.ref f := r1
  refine Calls.spliced_nil ⟨J.kIn, ?_⟩
  have mk0 : Inv X pins0 σ0 H1 s2 := I0.call' (ch := fp) J.os J.base J.hok J.bare fun b hb => by
    obtain ⟨_, z1, z2, z3, z4, z5⟩ := hfp b hb
    exact ⟨z3, z1, z4, z5⟩
  have mk1 : Inv X pins0 (wipe σ vs) H1 s2 := mk0.weak (by rw [hw, wipe_length]) fun i v e => by
    rw [hw] at e
    exact (wipe_some e).1
  have run : codeAny (model X.prog X.w) X.A (.call (.ref g) ⟨[.ref f], []⟩) (CR C8.CX0 X.stack X.prog X.w H1 s2 Q C8.E0) s2 := by
    refine run_ofS (N := Ng) (ps := [a]) (us := [.ref f]) (vs := [.ref f]) lk hcg Sg hr J.env0 (hb s2 [.ref f] J.kIn rfl) (.cons rfl .nil) rfl fun hr2 => ?_
    obtain ⟨t2, ht, hq⟩ := hG f d s2 H1 Q (fun E H' Q' => t E (wipe σ vs) H' Q') (fun W pn xe E p1 p2 tk hW => act_kept (i := 0) mk1 L (fun cl pm cv ctv => hbind _ cl pm cv ctv) tk hW hr2 (fun A outer s H hr3 => hbody A outer s H E f d hr3) hNg hva hd hcd) g2 g3 g4
    exact ⟨t2, ht.nox, hq⟩
  refine wpAny_call (codeAny_mono run fun r s' z => ?_)
  match r, z with
  | .error e, z => exact (show False from z).elim
  | .ok (.ret u), z => exact J.after z
/-- a lambda in a statement, by its parts -/
def lamE : Expr → Expr
  | .List (e :: _) _ => e
  | .Call _ (e :: _) _ _ => e
  | e => e
def lamSt : Stmt → Expr
  | .Assign _ v _ => lamE v
  | .Expr v _ => lamE v
  | .Return (some v) _ => lamE v
  | _ => .Name "" ⟨0, 0, 0, 0⟩
def lamAr : Expr → Arguments → Arguments
  | .Lambda a _ _ _, _ => a
  | _, a => a
def lamBd : Expr → Expr
  | .Lambda _ b _ _ => b
  | e => e
def lamSco : Expr → Scope → Scope
  | .Lambda _ _ c _, _ => c
  | _, c => c
/-- either of two readings -/
theorem pe_orW {e : Expr} {t u : TE} {w : L2.St → Prop} (h1 : PE X e (fun σ H Q => w σ ∧ t σ H Q)) (h2 : PE X e (fun σ H Q => w σ ∧ u σ H Q)) : PE X e (fun σ H Q => w σ ∧ (t σ H Q ∨ u σ H Q)) :=
  ⟨fun pins s σ H Q I h => h.2.elim (fun z => h1.run pins s σ H Q I ⟨h.1, z⟩) fun z => h2.run pins s σ H Q I ⟨h.1, z⟩⟩
end
end AW

set_option linter.all false
set_option maxRecDepth 100000
set_option maxHeartbeats 4000000
/-! a lambda made and handed on at once -/
namespace AW
open PySem PySem.Spec PyProof.Rows L2 LamX
section
variable {X : Cx}
def tLamA (T : List (Addr × Str)) (P : Addr) (q : Str) (mk : Addr → Addr → HO) (TT : (XK → Hp → VK → Prop) → Hp → VK → Prop) (t : XK → TE) : TE := fun σ H Q =>
  Tabs T H ∧ ∀ f d H1, Grown P q d H H1 → H1 f = none → TT (fun E H' Q' => t E σ H' Q') (upd H1 f (mk f d)) Q
theorem pe_lamarg {T : List (Addr × Str)} {TT : (XK → Hp → VK → Prop) → Hp → VK → Prop} {x a : Str} {g c P : Addr} {k : Nat} {pg : Arguments} {bg : List Stmt} {sg : Scope} {dV kV doc pm cdv ct oc : Value} {an od : Option Addr} {osl : Array (Option Value)} {Ng : List Str}
    {ar : Arguments} {bd : Expr} {sc : Scope} {t : XK → TE} {p lpos pos : Pos} (hg : Gl X x) (hm : X.mg x = some (.ref g)) (hk : PySem.W.keepIn X.K (.ref g) = true)
    (lk : X.K.lookup g = some ⟨oc, od, .func (PySem.W.fnOf x x pg bg sg dV kV doc pm an cdv ct), osl⟩) (hcg : PySem.W.codeIn X.K cdv x = true) (hb : L2.Binds X.K (PySem.W.fnOf x x pg bg sg dV kV doc pm an cdv ct) [a] []) (Sg : FnScope Ng [a] sg) (hNg : Ng[0]? = some a) (hva : Vis sg a)
    (hG : GivesK X Ng x sg g cdv bg a (lamq X) (LamO (lamq X) ar bd sc (cloFrom X.env.cells sc.names [])) TT)
    (TB : TabB X.base X.mg c P) (hc0 : X.env.code = .ref c) (hmT : (P, lamq X) ∈ T) (hr : Room (k + 2) X.A) (L : LamS X.env.scope sc) (hdef : defaultsOf ar X.env = ([], []))
    (hbind : ∀ (q : Str) (cl : List (Str × Addr)) (pm cv ctv : Value), bindArgs (PySem.W.kla_fn "<lambda>" q ar bd sc cl pm cv ctv) ⟨[], []⟩ = pure [])
    (hbody : ∀ (A : Around) (outer : List Env) (s : Shared) (H : Hp) (E : XK) (f d : Addr), Room k (A.deeper (lamEnv X sc s.heap.objs.size f d)) → PE (lamCx X A outer s H E sc f d) bd (t E))
    (hdb : (x == ("__debug__" : Str)) = false := by decide) (hd : (a == ("__debug__" : Str)) = false := by decide) (hcd : (a == ("__classdict__" : Str)) = false := by decide) :
    PE X (.Call (.Name x p) [.Lambda ar bd sc lpos] [] pos) (tLamA T P (lamq X) (LamO (lamq X) ar bd sc (cloFrom X.env.cells sc.names [])) TT t) := by
  refine ⟨fun pins s σ H Q I ⟨hT, h⟩ => ?_⟩
  refine wpAny_Call_Name_kw (ld_glob I hg hm ?_ hdb)
  refine PySem.W.callWith_K (h₀ := X.base) I.ok.mod.kin hk ?_ (by rfl) (by rfl)
  refine Calls.spliced_cons (lam_kept I TB hc0 hmT hT hdef (L.has I.ok) fun f d H1 s2 J gr n1 => ?_)
  refine Calls.spliced_nil ⟨J.kIn, ?_⟩
  have nd : d ≠ f := by
    intro z
    subst z
    rcases gr with ⟨ps, pos', e1, e2, e3⟩ | ⟨ps, pos', e1, e2, e3⟩
    · subst e3
      obtain ⟨ps2, k1, _, k3⟩ := hT _ hmT
      rw [e1] at k1
      cases k1
      obtain ⟨c2, k4, k5⟩ := k3 _ _ e2
      cases k4
      rw [k5] at n1
      cases n1
    · subst e3
      rw [upd_same] at n1
      cases n1
  have kd : upd H1 f (LamO (lamq X) ar bd sc (cloFrom X.env.cells sc.names []) f d) d = some (CodeO d (lamq X)) := by
    rw [upd_ne nd]
    rcases gr with ⟨ps, pos', e1, e2, e3⟩ | ⟨ps, pos', e1, e2, e3⟩
    · subst e3
      obtain ⟨ps2, k1, _, k3⟩ := hT _ hmT
      rw [e1] at k1
      cases k1
      obtain ⟨c2, k4, k5⟩ := k3 _ _ e2
      cases k4
      exact k5
    · subst e3
      exact upd_same
  have run : codeAny (model X.prog X.w) X.A (.call (.ref g) ⟨[.ref f], []⟩) (CR C8.CX0 X.stack X.prog X.w (upd H1 f (LamO (lamq X) ar bd sc (cloFrom X.env.cells sc.names []) f d)) s2 Q C8.E0) s2 := by
    refine run_ofS (N := Ng) (ps := [a]) (us := [.ref f]) (vs := [.ref f]) lk hcg Sg hr J.env0 (hb s2 [.ref f] J.kIn rfl) (.cons rfl .nil) rfl fun hr2 => ?_
    obtain ⟨t2, ht, hq⟩ := hG f d s2 _ Q (fun E H' Q' => t E σ H' Q') (fun W pn xe E p1 p2 tk hW => act_kept (i := 0) J L (fun cl pm cv ctv => hbind _ cl pm cv ctv) tk hW hr2 (fun A outer s H hr3 => hbody A outer s H E f d hr3) hNg hva hd hcd) upd_same kd (h f d H1 gr n1)
    exact ⟨t2, ht.nox, hq⟩
  refine wpAny_call (codeAny_mono run fun r s' z => ?_)
  match r, z with
  | .error e, z => exact (show False from z).elim
  | .ok (.ret u), z => exact J.after z
end
/-- a tuple of the text -/
theorem relV_of_abs {u : Value} {x : V} (h : absV u = some x) : RelV x u := by
  cases u <;> simp only [absV, Option.some.injEq, reduceCtorEq] at h <;> subst h <;> first | rfl | exact ⟨_, rfl⟩
theorem vals_of_abs : ∀ {us : List Value} {xs : List V}, us.map absV = xs.map some → Vals xs us
  | [], [], _ => .nil
  | [], _ :: _, h => nomatch h
  | _ :: _, [], h => nomatch h
  | u :: us, x :: xs, h => by
    rw [List.map_cons, List.map_cons, List.cons.injEq] at h
    exact .cons (relV_of_abs h.1) (vals_of_abs h.2)
theorem sqT_const {K : PySem.W.Frag} {H : Hp} {a : Addr} {od : Option Addr} {its : Array Value} {n : Nat} {sl : Array (Option Value)} {xs : List V} (lk : K.lookup a = some ⟨.type "tuple", od, .seq its n, sl⟩) (h : its.toList.map absV = xs.map some) (hl : xs.length ≤ sizeLine) : SqT K H a xs :=
  .inr ⟨_, its, n, lk, rfl, rfl, by
    have e := congrArg List.length h
    rw [List.length_map, List.length_map, Array.length_toList] at e
    omega, vals_of_abs h⟩
end AW

set_option linter.all false
set_option maxRecDepth 100000
set_option maxHeartbeats 4000000
namespace AW
open PySem PySem.Spec PyProof.Rows L2
/-- X(), X an own exception class without own __init__ -/
theorem pmk_own0 {X : Cx} {C : Addr} {bmB : List Value} {B newId initId : String} {x : Str} {p pos : Pos} (F : ExcBaseFacts B newId initId bmB) (q : PySem.W.excIn X.K C bmB newId = true) (gC : X.mg x = some (.ref C))
    (kC : PySem.W.keepIn X.K (.ref C) = true) (r : Raises X (.ref C)) (hg : Gl X x) (hdb : (x == ("__debug__" : Str)) = false := by decide) : PMk X (.Call (.Name x p) [] [] pos) (fun _ H Q => Q (.ref C) none H) := by
  intro pins s σ H Q I h
  refine wpAny_Call_Name_kw (ld_glob I hg gC ?_ hdb)
  refine PySem.W.callWith_K0 I.kIn kC ?_
  show wpAny _ _ (call (.ref C) []) _ _ _
  obtain ⟨bm, N, nm, qn, bs, hdct, sn, sub, ab, col, dd, k0, k1, k2, k3, k5, mN, hC, hN, hni, T⟩ := exc_obj I.kIn q
  refine wpAny_call_exc_subT F T hC hN hni (fun h' e hm => ?_) (Nat.zero_le _)
  exact mk_of I hm r h (I.hok.gone hm.new)
/-! gcd of three numbers -/
theorem args3_gcd (a b c : Value) : argsOk "math.gcd" ⟨[a, b, c], []⟩ := by unfold argsOk; kernel_rfl
theorem run3_gcd (a b c : Int) (t u v : Tok) : Gives (Builtin.«math.gcd» ⟨[.int a t, .int b u, .int c v], []⟩) (.int (((((Nat.gcd 0 a.natAbs).gcd b.natAbs).gcd c.natAbs : Nat) : Int))) :=
  .of_wp fun M A E s Q h => by
    obtain ⟨hp, g, d, tk, os⟩ := s
    wp_walk
    exact ⟨_, rfl, h⟩
def rGcd3 : List V → Hp → VK → Prop := fun vs H Q => ∃ a b c : Int, vs = [.int a, .int b, .int c] ∧ Q (.int (((a.natAbs.gcd b.natAbs).gcd c.natAbs : Nat) : Int)) H
theorem cr_gcd3 {X : Cx} : CallR X (.builtin "math.gcd") rGcd3 := by
  intro pins s σ H vs us Q I r h
  obtain ⟨a, b, c, rfl, q⟩ := h
  match us, r with
  | [_, _, _], .cons h1 (.cons h2 (.cons h3 .nil)) =>
    obtain ⟨t, rfl⟩ := h1
    obtain ⟨u, rfl⟩ := h2
    obtain ⟨v, rfl⟩ := h3
    have g := run3_gcd a b c t u v
    rw [Nat.gcd_zero_left] at g
    exact PySem.call_function_meets PySem.W.MGF.kind_gcd PySem.W.MGF.plain_gcd PySem.W.MGF.entry_gcd (args3_gcd _ _ _) g.meets ⟨.int _, H, I.tok _, ⟨_, rfl⟩, q⟩
end AW

set_option linter.all false
set_option maxRecDepth 100000
set_option maxHeartbeats 4000000
/-! an instance that is called: its class has its own __call__ -/
namespace AW
open PySem PySem.Spec PyProof.Rows L2
section
variable {M : Model} {A : Around} {E : Value → Shared → Prop} {s : Shared} {pos : Pos} {x C : Addr} {Q : Value → Shared → Prop}
theorem callW_obj {args : List (Bool × Sem Value)} (hpl : (args.any (·.1) || ([] : List (Option Str × Sem Value)).any (·.1.isNone)) = false) 
    (h : wpAny M A (evalArgs (.ref x) true args []) (fun a s1 => (∃ ox od, ox.data = .plain ∧ PySem.W.InstAt s1.heap x ox C od) ∧ wpAny M A (call (.ref x) ([] ++ a.pos) a.kw) Q E s1) E s) : wpAny M A (callWith pos (.ref x) [] args []) Q E s := by
  unfold callWith
  refine wpAny_bind (wpAny_holding (wpAny_mono h (fun a s1 z => ?_) fun _ _ y => y))
  obtain ⟨⟨ox, od, hd, J⟩, z⟩ := z
  refine wpAny_bind (wpAny_standAt ?_)
  simp only [hpl]
  refine wpAny_bind ((PySem.W.kco_keeper (M := M) J hd).here (wpAny_bind ?_))
  refine wpAny_mono (wpAny_operateT z) (fun r s2 hr => ?_) fun _ _ y => y
  exact wpAny_bind (wpAny_mono (wpAny_holding (wpAny_point (wpAny_pure hr))) (fun _ _ y => y) fun _ _ y => y)
end
/-- what a class must have for its instances to be called -/
structure CallC (K : PySem.W.Frag) (C f : Addr) : Prop where
  at_ : PySem.W.findIn K (.ref C) "__call__" = some (some (.ref f))
  fn : PySem.W.isFn K (.ref f) = true
  fni : PySem.W.fnIn K f = true
def tCallO (C : Addr) (sp : Sp) (E : XK) (tf : TE) (t : TA) : TE := fun σ H Q => tf σ H fun v H1 => ∃ a, v = .ref a ∧ t σ H1 fun vs H2 => (∃ dx fs, H2 a = some (.ins C dx fs)) ∧ sp (.ref a :: vs) H2 Q E
theorem pe_callObj {X : Cx} {fe e : Expr} {es : List Expr} {pos : Pos} {tf : TE} {t : TA} {CX : CXT} {C f : Addr} {k : Nat} {fd : FuncData} {ps : List Str} {sp : Sp} {E : XK} (hf : PE X fe tf) (c : CallC X.K C f) (F : FnOk X.prog X.w X.K X.mg X.base CX k f fd ps sp) (hr : Room k X.A)
    (hb : L2.Binds X.K fd ps []) (hx : Passes CX X E) (ha : PA X (e :: es) t)
    (ev : eval (.Call fe (e :: es) [] pos) X.env = (do callWith pos (← eval fe X.env) [] (backTo pos (starEach (e :: es) X.env)) (backToKw pos (keywordEach [] X.env))) := by rfl)
    (he : starEach (e :: es) X.env = (false, eval e X.env) :: starEach es X.env := by rfl) (hpl : (backTo pos (starEach es X.env)).any (·.1) = false := by rfl) :
    PE X (.Call fe (e :: es) [] pos) (tCallO C sp E tf t) := by
  refine ⟨fun pins s σ H Q I h => ?_⟩
  rw [ev]
  refine wpAny_bind (thn (hf.run pins s σ H _ I h) fun u s1 ⟨v, H1, I1, rv, a, eva, q⟩ => ?_)
  subst eva
  obtain rfl : u = Value.ref a := rv
  rw [he]
  refine callW_obj (C := C) (by show ((false || (backTo pos (starEach es X.env)).any (·.1)) || false) = false; rw [hpl]; rfl) (PySem.Calls.evalArgs_plain ?_)
  have hargs := ha.run pos pins s1 σ H1 _ I1 q
  rw [he] at hargs
  refine thn hargs fun us s2 ⟨vs, H2, I2, r, ⟨dx, fs, ea⟩, q2⟩ => ?_
  obtain ⟨mA, O, _⟩ := ins_get I2.hok ea
  obtain ⟨od, J, _⟩ := O.look
  refine ⟨⟨_, _, rfl, J⟩, ?_⟩
  have rv : Vals (.ref a :: vs) (.ref a :: us) := .cons rfl r
  have hl : (Value.ref a :: us).length = ps.length := by rw [← rv.length]; exact F.len _ _ _ _ q2
  have hbs := hb s2 (.ref a :: us) I2.kIn (by rw [List.append_nil]; exact hl)
  rw [List.append_nil] at hbs
  have run := F.run X.A X.stack s2 H2 ⟨.ref a :: us, []⟩ (.ref a :: us) (.ref a :: vs) Q E hr I2.env0 hbs rv q2
  refine wpAny_call (codeAny_mono (PySem.W.kco_code I2.kIn J rfl c.at_ c.fn c.fni run) fun rr s' z => ?_)
  match rr, z with
  | .error e, z => exact hx pins σ H2 s2 e s' I2 z
  | .ok (.ret u), z => exact I2.after z
end AW

set_option linter.all false
set_option maxRecDepth 100000
set_option maxHeartbeats 4000000
namespace AW
open PySem PySem.Spec PyProof.Rows L2
section
variable {X : Cx}
/-- x in a tuple of data -/
def rInT (K : PySem.W.Frag) : R2 := fun x y H Q => ∃ d ds, Dp K H x d ∧ Dp K H y (.tuple ds) ∧ SeqAt.shaped d = true ∧ SeqAt.shaped (.tuple ds) = true ∧ Q (.bl (ds.any fun z => PyData.eqv z d)) H
theorem op_inT (hu : X.A.units + 65 < cLine) : OpR X (compareOp .In) (rInT X.K) := by
  intro pins s σ H x y v u Q I rx ry h
  obtain ⟨d, ds, hd, he, sd, se, q⟩ := h
  obtain ⟨as, r1⟩ := Dp.reads I d x v hd rx
  obtain ⟨bs, r2⟩ := Dp.reads I (.tuple ds) y u he ry
  exact SeqAt.in_tuple_reads r2 r1 (SeqAt.canLay_of_shaped se) (SeqAt.canLay_of_shaped sd) (room_in_shaped sd hu) ⟨.bl _, H, I, rfl, q⟩
end
end AW

set_option linter.all false
set_option maxRecDepth 100000
set_option maxHeartbeats 1000000
/-! min(l) of a list of tuples of whole numbers -/
namespace RM
open PySem PySem.Spec PyProof.Rows L2 PySem.W
theorem lt_lex : ∀ a b : List Int, listLt a b = HT.lexLt a b
  | [], [] => rfl
  | [], _ :: _ => rfl
  | _ :: _, [] => rfl
  | x :: xs, y :: ys => by
    rw [HT.lexLt_cons]
    show (if x = y then listLt xs ys else decide (x < y)) = _
    rw [lt_lex xs ys]
theorem lex_asym : ∀ a b : List Int, HT.lexLt a b = true → HT.lexLt b a = false
  | [], [], h => by cases h
  | [], _ :: _, _ => rfl
  | _ :: _, [], h => by cases h
  | x :: xs, y :: ys, h => by
    rw [HT.lexLt_cons] at h ⊢
    by_cases e : x = y
    · subst e
      rw [if_pos rfl] at h ⊢
      exact lex_asym xs ys h
    · rw [if_neg e] at h
      rw [if_neg (fun z => e z.symm)]
      have := of_decide_eq_true h
      exact decide_eq_false (by omega)
theorem lex_self : ∀ a : List Int, HT.lexLt a a = false
  | [] => rfl
  | x :: xs => by rw [HT.lexLt_cons, if_pos rfl]; exact lex_self xs
/-- not less is handed on -/
theorem lex_nl : ∀ a b c : List Int, HT.lexLt a b = false → HT.lexLt b c = false → HT.lexLt a c = false
  | [], [], c, _, h => h
  | [], _ :: _, _, h, _ => by cases h
  | _ :: _, _, [], _, _ => rfl
  | _ :: _, [], _ :: _, _, h => by cases h
  | x :: xs, y :: ys, z :: zs, h1, h2 => by
    rw [HT.lexLt_cons] at h1 h2 ⊢
    by_cases e1 : x = y
    · subst e1
      rw [if_pos rfl] at h1
      by_cases e2 : x = z
      · subst e2
        rw [if_pos rfl] at h2 ⊢
        exact lex_nl xs ys zs h1 h2
      · rw [if_neg e2] at h2 ⊢
        exact h2
    · rw [if_neg e1] at h1
      have h1 := of_decide_eq_false h1
      by_cases e2 : y = z
      · subst e2
        rw [if_neg e1]
        exact decide_eq_false h1
      · rw [if_neg e2] at h2
        have h2 := of_decide_eq_false h2
        have e3 : x ≠ z := by omega
        rw [if_neg e3]
        exact decide_eq_false (by omega)
theorem fold_min (ns : List (Tup Int)) : ∀ x : Tup Int, (minOf x ns ∈ x :: ns) ∧ ∀ y ∈ x :: ns, HT.lexLt y.items (minOf x ns).items = false := by
  induction ns with
  | nil =>
    intro x
    refine ⟨by simp [minOf], fun y hy => ?_⟩
    simp at hy
    subst hy
    exact lex_self _
  | cons n ns ih =>
    intro x
    have e : minOf x (n :: ns) = minOf (if DatumOrd.lt n x = true then n else x) ns := rfl
    have el : DatumOrd.lt n x = HT.lexLt n.items x.items := lt_lex _ _
    rw [e, el]
    by_cases h : HT.lexLt n.items x.items = true
    · rw [if_pos h]
      obtain ⟨h1, h2⟩ := ih n
      refine ⟨List.mem_cons_of_mem _ h1, fun y hy => ?_⟩
      rcases List.mem_cons.mp hy with rfl | hy
      · exact lex_nl _ _ _ (lex_asym _ _ h) (h2 n (by simp))
      · exact h2 y hy
    · have h : HT.lexLt n.items x.items = false := by simpa using h
      rw [h]
      rw [if_neg (by decide)]
      obtain ⟨h1, h2⟩ := ih x
      refine ⟨?_, fun y hy => ?_⟩
      · rcases List.mem_cons.mp h1 with z | z
        · rw [z]; simp
        · exact List.mem_cons_of_mem _ (List.mem_cons_of_mem _ z)
      · rcases List.mem_cons.mp hy with rfl | hy
        · exact h2 y (by simp)
        · rcases List.mem_cons.mp hy with rfl | hy
          · exact lex_nl _ _ _ h (h2 x (by simp))
          · exact h2 y (List.mem_cons_of_mem _ hy)
def rMinT (K : PySem.W.Frag) : List V → Hp → VK → Prop := fun vs H Q => ∃ (a : Addr) (us : List V) (nss : List (List Int)), vs = [V.ref a] ∧ SqL K H a us ∧ us.length = nss.length ∧ (∀ (j : Nat) u ns, us[j]? = some u → nss[j]? = some ns → ∃ t, u = .ref t ∧ SqT K H t (ns.map V.int)) ∧ 0 < nss.length ∧
  ∀ (j : Nat) u ns, us[j]? = some u → nss[j]? = some ns → (∀ ms ∈ nss, HT.lexLt ms ns = false) → Q u H
section
variable {X : Cx}
theorem hold_all {pins : List (Addr × Obj)} {s : Shared} {σ : L2.St} {H : Hp} (I : Inv X pins σ H s) : ∀ {us : List V} {its : List Value} {nss : List (List Int)}, Vals us its → us.length = nss.length → (∀ (j : Nat) u ns, us[j]? = some u → nss[j]? = some ns → ∃ t, u = .ref t ∧ SqT X.K H t (ns.map V.int)) → HoldAll s.heap its (nss.map Tup.mk)
  | _, _, [], .nil, _, _ => HoldAll.nil
  | _, _, _ :: _, .nil, h, _ => by simp at h
  | _, _, [], .cons _ _, h, _ => by simp at h
  | _, _, ns :: nss, .cons (a := u) (b := v) r rr, hl, ht => by
    obtain ⟨t, e, q⟩ := ht 0 u ns rfl rfl
    subst e
    cases r
    obtain ⟨its, r1, p1, _⟩ := I.tuple q
    refine HoldAll.cons ?_ (hold_all I rr (by simpa using hl) fun j u n h1 h2 => ht (j + 1) u n h1 h2)
    exact holds_tup (show s.heap.IsTuple t its.toArray from p1) (HoldAll.of_ints (by simpa using r1.ints))
theorem cr_minT (hc : X.calm = true) (hu : X.A.units + 65 < cLine) : CallR X (.builtin "min") (rMinT X.K) := by
  intro pins s σ H vs us' Q I r h
  obtain ⟨a, us, nss, rfl, hs, hl, ht, h0, q⟩ := h
  obtain ⟨its, rv, hli, _⟩ := I.list hs
  rw [Vals.ref1 r]
  have HA := hold_all I rv hl ht
  cases nss with
  | nil => simp at h0
  | cons n0 nss =>
    refine min_list_datum (x := Tup.mk n0) (xs := nss.map Tup.mk) (I.ok.hd hc) hli.isList HA (show X.A.units + 1 + 1 < cLine by omega) fun i v h' tk hi hv hk => ?_
    have hi : its[i]? = some v := by simpa using hi
    have hil : i < us.length := by rw [rv.length]; exact (List.getElem?_eq_some_iff.mp hi).1
    have hui : us[i]? = some us[i] := List.getElem?_eq_getElem hil
    have hni : (n0 :: nss)[i]? = some ((n0 :: nss)[i]'(by rw [← hl]; exact hil)) := List.getElem?_eq_getElem (by rw [← hl]; exact hil)
    obtain ⟨v2, hv2, rel⟩ := rv.get hui
    rw [hi] at hv2
    cases hv2
    generalize us[i] = u at hui rel
    generalize (n0 :: nss)[i]'(by rw [← hl]; exact hil) = ns at hni
    obtain ⟨t, e, qt⟩ := ht i u ns hui hni
    subst e
    cases rel
    obtain ⟨its2, r2, p2, _⟩ := I.tuple qt
    obtain ⟨l, ws, e, hT, hA⟩ := tup_of_holds hv
    cases e
    have hT2 : h'.IsTuple t its2.toArray := IsTup.keeps p2 hk
    have ew : ws = its2.toArray := by
      obtain ⟨o, g1, _, n, d1⟩ := hT
      obtain ⟨o', g2, _, n', d2⟩ := hT2
      rw [g1] at g2
      cases g2
      rw [d1] at d2
      injection d2
    subst ew
    have e1 : IntsAre its2 (minOf (Tup.mk n0) (nss.map Tup.mk)).items := by simpa using hA.toInts
    have e2 : ns = (minOf (Tup.mk n0) (nss.map Tup.mk)).items := by rw [← e1.numsOf, ← r2.ints.numsOf]
    refine ⟨.ref t, H, I.kept hk, rfl, q i _ ns hui hni fun ms hm => ?_⟩
    rw [e2]
    exact (fold_min (nss.map Tup.mk) (Tup.mk n0)).2 (Tup.mk ms) (by
      rcases List.mem_cons.mp hm with rfl | hm
      · simp
      · exact List.mem_cons_of_mem _ (List.mem_map.mpr ⟨ms, hm, rfl⟩))
end
end RM

set_option linter.all false
set_option maxRecDepth 100000
set_option maxHeartbeats 4000000
/-! != of two tuples whose items are equal, by own __eq__ too: False -/
namespace RN
open PySem PySem.SeqAt GQ
open AutoSeq1 (wpAny_loadPart')
open MeetsSeq MeetsSeq2 MeetsSeq3 SeqRoads2
section
variable {prog : Program} {w : World} {A : Around} {R : Result → Shared → Prop}
theorem tupNe (p q : Addr) (as bs : Array Value) (m k : Nat) (d1 d2 : Option Addr) (o1 o2 : Array (Option Value)) (len : as.size = bs.size) (J : Nat → Shared → Prop)
    (step : ∀ i (l1 : i < as.size) (l2 : i < bs.size) s, J i s → wpAny (model prog w) A.in1 (eqBool as[i] bs[i]) (fun b s2 => b = true ∧ J (i + 1) s2) (fun e s2 => R (.error e) s2) s)
    (stop : ∀ s, J as.size s → R (.ok (.ret (.bool false))) s) {s : Shared} (hp : s.heap.get? p = some { cls := .type "tuple", dict := d1, data := .seq as m, slots := o1 }) (hq : s.heap.get? q = some { cls := .type "tuple", dict := d2, data := .seq bs k, slots := o2 }) (h : J 0 s) :
    wpAny (model prog w) A.in1 (Builtin.«tuple.__ne__» ⟨[.ref p, .ref q], []⟩) (FinOf prog w A R) (fun e s2 => R (.error e) s2) s := by
  have sub := AutoSeq1.sub_tuple_tuple
  have lz : (as.toList.zip bs.toList).length = as.size := by simp [len]
  have start := h
  obtain ⟨g0, g1, g2, g3, g4⟩ := s
  wp_walk using wpAny_loadPart' hp, wpAny_loadPart' hq, wpAny_forIn_list _ (fun rs b s2 => b.1 = none ∧ ∃ i, rs = (as.toList.zip bs.toList).drop i ∧ i ≤ as.size ∧ J i s2) _
  case turn =>
    rintro ⟨u, v⟩ rs b s2 ⟨eb, i, er, li, hJ⟩
    have lt : i < (as.toList.zip bs.toList).length := by
      apply Classical.byContradiction
      intro n
      rw [List.drop_of_length_le (Nat.le_of_not_lt n)] at er
      cases er
    have l1 : i < as.size := lz ▸ lt
    have l2 : i < bs.size := len ▸ l1
    rw [List.drop_eq_getElem_cons lt] at er
    injection er with euv erest
    have eu : u = as[i] := by simpa using congrArg Prod.fst euv
    have ev : v = bs[i] := by simpa using congrArg Prod.snd euv
    subst eu ev
    refine wpAny_bind (wpAny_mono (step i l1 l2 s2 hJ) (fun b s3 t => ?_) fun _ _ x => x)
    obtain ⟨rfl, t⟩ := t
    wp_walk
    exact ⟨rfl, i + 1, erest, l1, t⟩
  case fin =>
    rintro ⟨c1, c2⟩ s2 ⟨eb, i, er, li, hJ⟩
    simp only at eb
    subst eb
    have ge : as.size ≤ i := by
      apply Classical.byContradiction
      intro n
      have lt : i < (as.toList.zip bs.toList).length := by omega
      rw [List.drop_eq_getElem_cons lt] at er
      cases er
    have ei : i = as.size := by omega
    have done : R (.ok (.ret (.bool false))) s2 := stop s2 (ei ▸ hJ)
    wp_walk
    simpa [Builtin.Tuple.tupleCompareSizes, len] using done
  case h =>
    exact ⟨rfl, 0, rfl, Nat.zero_le _, start⟩
end
section
variable {prog : Program} {w : World} {A : Around} {E : Value → Shared → Prop} {s : Shared}
theorem rcNe {p q : Addr} {as bs : Array Value} {Q : Value → Shared → Prop} (len : as.size = bs.size) (hu : A.units < cLine) (J : Nat → Shared → Prop)
    (hp : s.heap.IsTuple p as) (hq : s.heap.IsTuple q bs)
    (step : ∀ i (l1 : i < as.size) (l2 : i < bs.size) s, J i s → wpAny (model prog w) A.in1 (eqBool as[i] bs[i]) (fun b s2 => b = true ∧ J (i + 1) s2) E s)
    (stop : ∀ s, J as.size s → Q (.bool false) s) (h : J 0 s) : wpAny (model prog w) A (richCompare .NotEq (.ref p) (.ref q)) Q E s := by
  obtain ⟨⟨c1, d1, t1, o1⟩, e1, k1, n1, z1⟩ := id hp
  obtain ⟨⟨c2, d2, t2, o2⟩, e2, k2, n2, z2⟩ := id hq
  simp only at k1 z1 k2 z2
  subst k1 z1 k2 z2
  refine wpAny_richCompare_same_room (op := .NotEq) ⟨_, e1, rfl⟩ ⟨_, e2, rfl⟩ F.slot_tuple_ne (call_here F.slot_tuple_ne ⟨_, e1, rfl⟩ F.entry_tuple_ne (F.args_tuple_ne_2 _ _) ?_) hu
  exact tupNe (R := wants (fun v s2 => v ≠ .notImplemented ∧ Q v s2) E) p q as bs n1 n2 d1 d2 o1 o2 len J step (fun s2 t => ⟨(fun x => nomatch x), stop s2 t⟩) e1 e2 h
end
end RN
namespace AW
open PySem PySem.Spec PyProof.Rows L2
section
variable {X : Cx} {n : Nat} {D : Eqv}
def RcN (X : Cx) (n : Nat) (D : Eqv) : Prop :=
  ∀ (A : Around) (pins : List (Addr × Obj)) (s : Shared) (σ : L2.St) (H : Hp) (x y : V) (u v : Value), L2.Sub X n A → Inv X pins σ H s → RelV x u → RelV y v → D x y H →
    wpAny (model X.prog X.w) A (richCompare .NotEq u v) (fun r s2 => r = .bool false ∧ ∃ H', Inv X pins σ H' s2 ∧ L2.Ext H H') X.xe s
theorem rcN_tup (hD : Mon D) (h : EqG X n D) : RcN X (n + 1) (DTup X.K D) := by
  intro A pins s σ H x y u v sb I rx ry d
  obtain ⟨a, b, xs, ys, rfl, rfl, ha, hb, p⟩ := d
  cases rx
  cases ry
  obtain ⟨its, r, e, z⟩ := I.tuple ha
  obtain ⟨its2, r2, e2, z2⟩ := I.tuple hb
  have len : its.toArray.size = its2.toArray.size := by rw [List.size_toArray, List.size_toArray, ← r.length, ← r2.length]; exact p.1
  exact RN.rcNe len sb.room.units0 (fun _ s2 => LoopI X pins σ H s2) e e2 (fun i l1 l2 s2 t => turnG hD h sb p r r2 i l1 l2 s2 t) (fun s2 t => ⟨rfl, t⟩) ⟨H, I, L2.Ext.rfl'⟩
/-- x != y, which is False -/
def rNeG (D : Eqv) : R2 := fun x y H Q => D x y H ∧ ∀ H', L2.Ext H H' → Q (.bl false) H'
theorem op_neG (h : RcN X n D) (hr : Room n X.A) : OpR X (compareOp .NotEq) (rNeG D) := by
  intro pins s σ H x y v u Q I rx ry hq
  obtain ⟨d, q⟩ := hq
  show wpAny (model X.prog X.w) X.A (richCompare .NotEq v u) (EP X pins σ Q) X.xe s
  refine wpAny_mono (h X.A pins s σ H x y v u ⟨hr, rfl⟩ I rx ry d) (fun r s2 z => ?_) fun _ _ x => x
  obtain ⟨rfl, H', I2, e⟩ := z
  exact ⟨.bl false, H', I2, rfl, q H' e⟩
end
end AW

set_option linter.all false
set_option maxRecDepth 100000
set_option maxHeartbeats 4000000
/-! < of data that are alike; iteration over one of two kinds -/
namespace AW
open PySem PySem.Spec PyProof.Rows L2
section
variable {X : Cx}
def rLtDD (K : PySem.W.Frag) : R2 := fun x y H Q => ∃ d e, Dp K H x d ∧ Dp K H y e ∧ PySem.W.alike d e = true ∧ d ≠ .none ∧ min d.depth e.depth ≤ 60 ∧ Q (.bl (PySem.W.dataLt d e)) H
theorem op_ltDD (hu : X.A.units + 64 < cLine) : OpR X (compareOp .Lt) (rLtDD X.K) := by
  intro pins s σ H x y v u Q I rx ry h
  obtain ⟨d, e, hd, he, al, nn, dp, q⟩ := h
  obtain ⟨as, r1⟩ := Dp.reads I d x v hd rx
  obtain ⟨bs, r2⟩ := Dp.reads I e y u he ry
  show wpAny (model X.prog X.w) X.A (richCompare .Lt v u) (EP X pins σ Q) X.xe s
  exact PySem.W.rcLt_alike d e X.A s v u as bs r1 r2 al nn (by omega) X.prog X.w X.xe _ ⟨.bl _, H, I, rfl, q⟩
/-- x not in a tuple of data -/
def rNinT (K : PySem.W.Frag) : R2 := fun x y H Q => ∃ d ds, Dp K H x d ∧ Dp K H y (.tuple ds) ∧ SeqAt.shaped d = true ∧ SeqAt.shaped (.tuple ds) = true ∧ Q (.bl (!ds.any fun z => PyData.eqv z d)) H
theorem op_ninT (hu : X.A.units + 65 < cLine) : OpR X (compareOp .NotIn) (rNinT X.K) := by
  intro pins s σ H x y v u Q I rx ry h
  obtain ⟨d, ds, hd, he, sd, se, q⟩ := h
  obtain ⟨as, r1⟩ := Dp.reads I d x v hd rx
  obtain ⟨bs, r2⟩ := Dp.reads I (.tuple ds) y u he ry
  exact SeqAt.notIn_tuple_reads r2 r1 (SeqAt.canLay_of_shaped se) (SeqAt.canLay_of_shaped sd) (room_in_shaped sd hu) ⟨.bl _, H, I, rfl, q⟩
def iOr (t u : TI) : TI := fun σ H R => t σ H R ∨ u σ H R
theorem pi_or {tg l : Expr} {t u : TI} (h1 : PI X tg l t) (h2 : PI X tg l u) : PI X tg l (iOr t u) := ⟨fun pins s σ H R I h => h.elim (h1.run pins s σ H R I) (h2.run pins s σ H R I)⟩
end
end AW

set_option linter.all false
set_option maxRecDepth 100000
set_option maxHeartbeats 4000000
/-! a list against the empty list, whatever it holds; x not in a list of data -/
namespace RN
open PySem PySem.SeqAt GQ
open AutoSeq1 (wpAny_loadPart')
open MeetsSeq MeetsSeq2 MeetsSeq3 SeqRoads2
section
variable {prog : Program} {w : World} {A : Around} {R : Result → Shared → Prop}
theorem listNe0 (p q : Addr) (as : Array Value) (m k : Nat) (d1 d2 : Option Addr) (o1 o2 : Array (Option Value)) (h0 : as.size ≠ 0) {s : Shared} (hp : s.heap.get? p = some { cls := .type "list", dict := d1, data := .seq as m, slots := o1 }) (hq : s.heap.get? q = some { cls := .type "list", dict := d2, data := .seq #[] k, slots := o2 })
    (stop : R (.ok (.ret (.bool true))) s) :
    wpAny (model prog w) A.in1 (Builtin.«list.__ne__» ⟨[.ref p, .ref q], []⟩) (FinOf prog w A R) (fun e s2 => R (.error e) s2) s := by
  have sub := AutoSeq1.sub_list_list
  obtain ⟨g0, g1, g2, g3, g4⟩ := s
  wp_walk using wpAny_loadPart' hp, wpAny_loadPart' hq
  exact stop
end
section
variable {prog : Program} {w : World} {A : Around} {E : Value → Shared → Prop} {s : Shared}
theorem rcNe0 {p q : Addr} {as : Array Value} {Q : Value → Shared → Prop} (h0 : as.size ≠ 0) (hu : A.units < cLine) (hp : s.heap.IsList p as) (hq : s.heap.IsList q #[]) (stop : Q (.bool true) s) : wpAny (model prog w) A (richCompare .NotEq (.ref p) (.ref q)) Q E s := by
  obtain ⟨⟨c1, d1, t1, o1⟩, e1, k1, n1, z1⟩ := id hp
  obtain ⟨⟨c2, d2, t2, o2⟩, e2, k2, n2, z2⟩ := id hq
  simp only at k1 z1 k2 z2
  subst k1 z1 k2 z2
  refine wpAny_richCompare_same_room (op := .NotEq) ⟨_, e1, rfl⟩ ⟨_, e2, rfl⟩ F.slot_list_ne (call_here F.slot_list_ne ⟨_, e1, rfl⟩ F.entry_list_ne (F.args_list_ne_2 _ _) ?_) hu
  exact listNe0 (R := wants (fun v s2 => v ≠ .notImplemented ∧ Q v s2) E) p q as n1 n2 d1 d2 o1 o2 h0 e1 e2 ⟨(fun x => nomatch x), stop⟩
end
end RN
namespace AW
open PySem PySem.Spec PyProof.Rows L2
section
variable {X : Cx}
/-- a list != the empty list -/
def rNeNil (K : PySem.W.Frag) : R2 := fun x y H Q => ∃ a b xs, x = .ref a ∧ y = .ref b ∧ SqL K H a xs ∧ SqL K H b [] ∧ Dp K H (.ref b) (.list []) ∧ (xs = [] → Dp K H (.ref a) (.list [])) ∧ Q (.bl (!xs.isEmpty)) H
theorem op_neNil (hu : X.A.units + 64 < cLine) : OpR X (compareOp .NotEq) (rNeNil X.K) := by
  intro pins s σ H x y v u Q I rx ry h
  obtain ⟨a, b, xs, rfl, rfl, ha, hb, db, da, q⟩ := h
  cases xs with
  | nil => exact op_neD hu pins s σ H _ _ v u Q I rx ry ⟨.list [], .list [], da rfl, db, rfl, rfl, q⟩
  | cons z r =>
    cases rx
    cases ry
    obtain ⟨its, r1, e1, _⟩ := I.list ha
    obtain ⟨its2, r2, e2, _⟩ := I.list hb
    have h2 : its2 = [] := by have := r2.length; exact List.eq_nil_of_length_eq_zero this.symm
    subst h2
    show wpAny (model X.prog X.w) X.A (richCompare .NotEq _ _) (EP X pins σ Q) X.xe s
    refine RN.rcNe0 (as := its.toArray) (by rw [List.size_toArray, ← r1.length]; exact Nat.succ_ne_zero _) (by omega) e1.isList e2.isList ⟨.bl true, H, I, rfl, q⟩
/-- x not in a list of data -/
def rNinL (K : PySem.W.Frag) : R2 := fun x y H Q => ∃ d ds, Dp K H x d ∧ Dp K H y (.list ds) ∧ SeqAt.shaped d = true ∧ SeqAt.shaped (.list ds) = true ∧ Q (.bl (!ds.any fun z => PyData.eqv z d)) H
theorem op_ninL (hu : X.A.units + 65 < cLine) : OpR X (compareOp .NotIn) (rNinL X.K) := by
  intro pins s σ H x y v u Q I rx ry h
  obtain ⟨d, ds, hd, he, sd, se, q⟩ := h
  obtain ⟨as, r1⟩ := Dp.reads I d x v hd rx
  obtain ⟨bs, r2⟩ := Dp.reads I (.list ds) y u he ry
  exact SeqAt.notIn_list_reads r2 r1 (SeqAt.canLay_of_shaped (d := .list ds) se) (SeqAt.canLay_of_shaped sd) (room_in_shaped sd hu) ⟨.bl _, H, I, rfl, q⟩
end
end AW

set_option linter.all false
set_option maxRecDepth 100000
set_option maxHeartbeats 4000000
/-! dicts with tuple keys: a display of one pair -/
namespace AW
open PySem PySem.Spec PyProof.Rows L2
section
variable {X : Cx}
/-- {k: v}, k a tuple -/
def tDisp1T (tk tv : TE) : TE := fun σ H Q => ∀ p, H p = none → tk σ (upd H p (.dT [])) fun x H1 => tv σ H1 fun y H2 => H2 p = some (.dT []) ∧ ∃ (b : Addr) (k : List L2.Key), x = .ref b ∧ H2 b = some (.tup (k.map kV)) ∧ Q (.ref p) (upd H2 p (.dT [(k, y)]))
theorem pe_disp1T {ke ve : Expr} {tk tv : TE} {pos : Pos} (hu : X.A.units < cLine) (hk : PE X ke tk) (hv : PE X ve tv) : PE X (.Dict [some ke] [ve] pos) (tDisp1T tk tv) := by
  refine ⟨fun pins s σ H Q I q => ?_⟩
  have hn := I.hok.fresh (Nat.le_refl s.heap.objs.size)
  have I1 := I.laid (a := s.heap.objs.size) (o := .dT []) (h' := s.heap.push { cls := .type "dict", data := .dict #[] }) (t' := s.toks) (fun _ _ q => Heap.get?_push_of_some _ q) (Nat.le_refl _) (dt_empty s.heap I.big)
  have hshape : (evalEachOpt [some ke] X.env).zip ((evalEach [ve] X.env).map fun v => do let x ← v; standAt pos; pure x) = (pairTrees [some ke] [ve] X.env pos).map fun p => (some p.1, p.2) := rfl
  rw [arm_eval_Dict, hshape, dictDisplay_pairs (pairTrees [some ke] [ve] X.env pos) (fun h => nomatch h) (by show 1 < 17; decide)]
  refine wpAny_bind (wpAny_standAt (wpAny_bind (wpAny_subDictH (knd := tupleKind (mixKind X.prog X.w)) (Q := fun d s' => wpAny (model X.prog X.w) X.A (pure (Value.ref d)) (EP X pins σ Q) X.xe s') hu (by show 1 ≤ 15; decide) (thn ((pps_cons hk hv pps_nil).run pins _ σ _ (fun ps H2 => match ps with
    | [(x, y)] => H2 s.heap.objs.size = some (.dT []) ∧ ∃ (b : Addr) (k : List L2.Key), x = .ref b ∧ H2 b = some (.tup (k.map kV)) ∧ Q (.ref s.heap.objs.size) (upd H2 s.heap.objs.size (.dT [(k, y)]))
    | _ => False) I1 (q _ hn)) fun ws s2 ⟨ps, H2, I2, rel, q2⟩ => ?_))))
  match ps, rel, q2 with
  | [(x, y)], rel, ⟨e, b, k, ex, eb, q2⟩ =>
    subst ex
    cases rel with
    | @cons _ w1 _ ws1 h t =>
      cases t
      obtain ⟨kw, vw⟩ := w1
      obtain ⟨hkw, hvw⟩ := h
      obtain rfl : kw = Value.ref b := hkw
      obtain ⟨z, hd, xs, rl, dd⟩ := dt_of I2.hok e
      cases rl
      refine ⟨[(k, b, vw)], ⟨rfl, rfl, key_of I2.hok eb, trivial⟩, dd, fun h' tk dd' hs => wpAny_pure ⟨.ref s.heap.objs.size, _, ?_, rfl, q2⟩⟩
      obtain ⟨o, es, ep, hq, h2, h3, h4, h5⟩ := dd'
      refine d_write I2 (by rw [e]; exact True.intro) hs ⟨o, hq⟩ ⟨by show 1 ≤ _; decide, hd, [(k, b, vw)], .cons ⟨rfl, ?_, hvw⟩ .nil, o, es, ep, hq, h2, h3, h4, h5.2⟩
      rw [upd_ne (ne_of eb e (fun z => nomatch z))]
      exact eb
end
/-! a dict of the module's top: texts to tuples -/
def EntL (K : PySem.W.Frag) (w : World) : List DictEntry → List (Str × List V) → Prop
  | [], [] => True
  | e :: es, (k, xs) :: l => (∃ t b, e = ⟨hashStr w k, .str k t, .ref b⟩ ∧ ∀ H : Hp, SqT K H b xs) ∧ EntL K w es l
  | _, _ => False
class CDict (K : PySem.W.Frag) (w : World) (nm : Str) (l : List (Str × List V)) : Prop where
  ok : ∀ a, PySem.W.nsIn K mainGlobals nm = some (some (.ref a)) → ∃ (es : Array DictEntry) (ep : Nat), K.lookup a = some ⟨.type "dict", none, .dict es ep, #[]⟩ ∧ EntL K w es.toList l ∧ (a == sysModules) = false
theorem entL {P : Program} {K : PySem.W.Frag} {w : World} : ∀ {es : List DictEntry} {l : List (Str × List V)}, EntL K w es l → ∃ kvs : List (Key × Value), (∀ e ∈ es, ∃ k, (mixKind P w).is k e.key = true ∧ e.hash = (mixKind P w).hash k) ∧ Pairs (mixKind P w) es kvs ∧ kvs.map (·.1) = l.map (fun p => (Sum.inr p.1 : Key)) ∧
    (∀ k xs, l.lookup k = some xs → ∃ b, valueAt kvs (.inr k) = some (.ref b) ∧ ∀ H : Hp, SqT K H b xs) ∧ ∀ k, l.lookup k = none → valueAt kvs (.inr k) = none
  | [], [], _ => ⟨[], fun _ h => (nomatch h), .nil, rfl, fun k xs h => by simp at h, fun _ _ => rfl⟩
  | [], _ :: _, h => h.elim
  | _ :: _, [], h => h.elim
  | e :: es, (k, xs) :: l, ⟨⟨t, b, ee, hs⟩, h⟩ => by
    subst ee
    obtain ⟨kvs, h1, h2, h3, h4, h5⟩ := entL (P := P) h
    refine ⟨(.inr k, .ref b) :: kvs, fun e he => ?_, .cons (keyIs_str k t) rfl h2, by rw [List.map_cons, List.map_cons, h3], fun k' xs' hl => ?_, fun k' hl => ?_⟩
    · rcases List.mem_cons.mp he with rfl | he
      · exact ⟨.inr k, keyIs_str k t, rfl⟩
      · exact h1 e he
    · by_cases hk : k' = k
      · subst hk
        simp only [List.lookup, beq_self_eq_true, Option.some.injEq] at hl
        subst hl
        exact ⟨b, by simp [valueAt], hs⟩
      · have hb : (k' == k) = false := beq_eq_false_iff_ne.mpr hk
        simp only [List.lookup, hb] at hl
        obtain ⟨b', e1, e2⟩ := h4 k' xs' hl
        refine ⟨b', ?_, e2⟩
        rw [← e1]
        simp only [valueAt, List.find?_cons]
        have hn : decide ((Sum.inr k : Key) = Sum.inr k') = false := decide_eq_false fun z => hk (Sum.inr.inj z).symm
        rw [hn]
    · by_cases hk : k' = k
      · subst hk
        simp only [List.lookup, beq_self_eq_true] at hl
        cases hl
      · have hb : (k' == k) = false := beq_eq_false_iff_ne.mpr hk
        simp only [List.lookup, hb] at hl
        have e1 := h5 k' hl
        rw [← e1]
        simp only [valueAt, List.find?_cons]
        have hn : decide ((Sum.inr k : Key) = Sum.inr k') = false := decide_eq_false fun z => hk (Sum.inr.inj z).symm
        rw [hn]
section
variable {X : Cx}
def tCDict (K : PySem.W.Frag) (l : List (Str × List V)) (ti : TE) : TE := fun σ H Q => ti σ H fun y H1 => ∃ k xs, y = .str k ∧ l.lookup k = some xs ∧ ∀ b, (∀ H : Hp, SqT K H b xs) → Q (.ref b) H1
theorem pe_cdict {nm : Str} {l : List (Str × List V)} {c : Addr} {i : Expr} {ti : TE} {p pos : Pos} [cd : CDict X.K X.w nm l] (nd : (l.map (·.1)).Nodup) (hg : Gl X nm) (hc : PySem.W.nsIn X.K mainGlobals nm = some (some (.ref c))) (hm : X.mg nm = some (.ref c)) (hi : PE X i ti) (hs : NoSl i)
    (hdb : (nm == ("__debug__" : Str)) = false := by decide) : PE X (.Subscript (.Name nm p) i pos) (tCDict X.K l ti) := by
  obtain ⟨es, ep, lk, ent, _⟩ := cd.ok c hc
  obtain ⟨kvs, h1, h2, h3, h4, _⟩ := entL (P := X.prog) ent
  refine ⟨fun pins s σ H Q I h => ?_⟩
  refine subD_of PySem.F.slot_dict_getitem.lookup hs (thn ((pe_glob (v := V.ref c) (pos := p) hg hm rfl hdb).run pins s σ H (fun v H1 => v = V.ref c ∧ H1 = H) I ⟨rfl, rfl⟩) fun u s1 ⟨x, H1, I1, rx, ex, eH⟩ => ?_)
  subst ex eH
  obtain rfl : u = Value.ref c := rx
  refine thn (hi.run pins s1 σ H1 _ I1 h) fun iv s2 ⟨y, H2, I2, ry, k, xs, ey, hl, q2⟩ => ?_
  subst ey
  have ho := I2.kIn c _ lk
  have dd : s2.heap.DictOf (mixKind X.prog X.w) c kvs := ⟨_, es, ep, ho, ⟨rfl, rfl, rfl⟩, rfl, fun e he => h1 e (by simpa using he), h2, by
    rw [h3]
    have : (l.map fun p => (Sum.inr p.1 : Key)) = (l.map (·.1)).map Sum.inr := by rw [List.map_map]; rfl
    rw [this]
    exact nd.map _ fun a b hab z => hab (Sum.inr.inj z)⟩
  obtain ⟨b, hv, hb⟩ := h4 k xs hl
  exact ⟨⟨_, ho, rfl⟩, wpAny_getItem_of (k := (Sum.inr k : Key)) (kV_is (k := (Sum.inr k : Key)) ry) dd.mapOf hv ⟨.ref b, H2, I2.tok _, rfl, q2 b hb⟩⟩
/-- y in d, y not in d, d a dict of the module's top -/
def tCDIn (neg : Bool) (l : List (Str × List V)) (ti : TE) : TE := fun σ H Q => ti σ H fun y H1 => ∃ k, y = .str k ∧ Q (.bl (xor neg (l.lookup k).isSome)) H1
theorem cd_map {l : List (Str × List V)} {K : PySem.W.Frag} {c : Addr} {nm : Str} {P : Program} {w : World} {h : Heap} (cd : CDict K w nm l) (nd : (l.map (·.1)).Nodup) (hc : PySem.W.nsIn K mainGlobals nm = some (some (.ref c))) (KX : K.In h) : ∃ f : Key → Option Value, h.MapOf (mixKind P w) c f ∧ (c == sysModules) = false ∧ ∀ k, (f (.inr k)).isSome = (l.lookup k).isSome := by
  obtain ⟨es, ep, lk, ent, ns⟩ := cd.ok c hc
  obtain ⟨kvs, h1, h2, h3, h4, h5⟩ := entL (P := P) ent
  have ho := KX c _ lk
  have dd : h.DictOf (mixKind P w) c kvs := ⟨_, es, ep, ho, ⟨rfl, rfl, rfl⟩, rfl, fun e he => h1 e (by simpa using he), h2, by
    rw [h3]
    have : (l.map fun p => (Sum.inr p.1 : Key)) = (l.map (·.1)).map Sum.inr := by rw [List.map_map]; rfl
    rw [this]
    exact nd.map _ fun a b hab z => hab (Sum.inr.inj z)⟩
  refine ⟨_, dd.mapOf, ns, fun k => ?_⟩
  cases hl : l.lookup k with
  | none => rw [h5 k hl]; rfl
  | some xs => obtain ⟨b, e, _⟩ := h4 k xs hl; rw [e]; rfl
theorem pc_cdIn {nm : Str} {l : List (Str × List V)} {c : Addr} {i : Expr} {ti : TE} {p : Pos} [cd : CDict X.K X.w nm l] (nd : (l.map (·.1)).Nodup) (hg : Gl X nm) (hc : PySem.W.nsIn X.K mainGlobals nm = some (some (.ref c))) (hm : X.mg nm = some (.ref c)) (hi : PE X i ti)
    (hdb : (nm == ("__debug__" : Str)) = false := by decide) : PC X .In i (.Name nm p) (tCDIn false l ti) := by
  refine ⟨fun pins s σ H Q I h => ?_⟩
  refine thn (hi.run pins s σ H _ I h) fun iv s1 ⟨y, H1, I1, ry, k, ey, q1⟩ => thn ((pe_glob (v := V.ref c) (pos := p) hg hm rfl hdb).run pins s1 σ H1 (fun v H2 => v = V.ref c ∧ H2 = H1) I1 ⟨rfl, rfl⟩) fun u s2 ⟨x, H2, I2, rx, ex, eH⟩ => ?_
  subst ex eH ey
  obtain rfl : u = Value.ref c := rx
  obtain ⟨f, mf, ns, hf⟩ := cd_map (P := X.prog) cd nd hc I2.kIn
  refine wpAny_in_of (k := (Sum.inr k : Key)) (kV_is (k := (Sum.inr k : Key)) ry) ns mf ?_
  rw [hf]
  exact ⟨.bl (l.lookup k).isSome, H2, I2.tok _, rfl, by rw [Bool.false_xor] at q1; exact q1⟩
theorem pc_cdNotIn {nm : Str} {l : List (Str × List V)} {c : Addr} {i : Expr} {ti : TE} {p : Pos} [cd : CDict X.K X.w nm l] (nd : (l.map (·.1)).Nodup) (hg : Gl X nm) (hc : PySem.W.nsIn X.K mainGlobals nm = some (some (.ref c))) (hm : X.mg nm = some (.ref c)) (hi : PE X i ti)
    (hdb : (nm == ("__debug__" : Str)) = false := by decide) : PC X .NotIn i (.Name nm p) (tCDIn true l ti) := by
  refine ⟨fun pins s σ H Q I h => ?_⟩
  refine thn (hi.run pins s σ H _ I h) fun iv s1 ⟨y, H1, I1, ry, k, ey, q1⟩ => thn ((pe_glob (v := V.ref c) (pos := p) hg hm rfl hdb).run pins s1 σ H1 (fun v H2 => v = V.ref c ∧ H2 = H1) I1 ⟨rfl, rfl⟩) fun u s2 ⟨x, H2, I2, rx, ex, eH⟩ => ?_
  subst ex eH ey
  obtain rfl : u = Value.ref c := rx
  obtain ⟨f, mf, ns, hf⟩ := cd_map (P := X.prog) cd nd hc I2.kIn
  refine wpAny_notIn_of (k := (Sum.inr k : Key)) (kV_is (k := (Sum.inr k : Key)) ry) ns mf ?_
  rw [hf]
  exact ⟨.bl (!(l.lookup k).isSome), H2, I2.tok _, rfl, by rw [Bool.true_xor] at q1; exact q1⟩
end
end AW

set_option linter.all false
set_option maxRecDepth 100000
set_option maxHeartbeats 4000000
/-! sorted(xs), xs a list of triples of ints, any number of them -/
namespace AW
open PySem PySem.Spec PyProof.Rows L2
abbrev I3 := Int × Int × Int
abbrev l3 (p : I3) : List Int := [p.1, p.2.1, p.2.2]
def IsTrip (h : Heap) (v : Value) (p : I3) : Prop := ∃ a o t u w n, v = .ref a ∧ h.get? a = some o ∧ o.cls = .type "tuple" ∧ o.data = .seq #[.int p.1 t, .int p.2.1 u, .int p.2.2 w] n
theorem IsTrip.keeps {h h' : Heap} {v : Value} {x : I3} (p : IsTrip h v x) (k : ∀ b o, h.get? b = some o → o.cls = .type "tuple" → h'.get? b = some o) : IsTrip h' v x := by
  obtain ⟨a, o, t, u, w, n, e, ho, hc, hd⟩ := p
  exact ⟨a, o, t, u, w, n, e, k _ _ ho hc, hc, hd⟩
theorem firsts3 {h : Heap} : ∀ {vs : List Value}, (∀ v ∈ vs, ∃ p, IsTrip h v p) → ∃ fs : List Value, PySem.W.KatTups h vs fs ∧ fs.length = vs.length ∧ ∀ f ∈ fs, ∃ x t, f = Value.int x t
  | [], _ => ⟨[], PySem.W.KatTups.nil, rfl, fun _ hm => by simp at hm⟩
  | v :: vs, hp => by
    obtain ⟨fs, h1, h2, h3⟩ := firsts3 (vs := vs) fun v' hm => hp v' (List.mem_cons_of_mem _ hm)
    obtain ⟨p, a, o, t, u, w, n, e, ho, hc, hd⟩ := hp v (List.mem_cons_self ..)
    subst e
    refine ⟨.int p.1 t :: fs, PySem.W.KatTups.cons ho hc hd rfl h1, by rw [List.length_cons, List.length_cons, h2], fun f hm => ?_⟩
    rcases List.mem_cons.mp hm with rfl | hm
    · exact ⟨p.1, t, rfl⟩
    · exact h3 f hm
theorem lex3 {x y z x' y' z' : Int} : HT.lexLt [x, y, z] [x', y', z'] = if x = x' then (if y = y' then decide (z < z') else decide (y < y')) else decide (x < x') := by
  rw [HT.lexLt_cons, HT.lexLt_cons, HT.lexLt_cons, HT.lexLt_nil_nil]
  by_cases e : z = z'
  · subst e; simp
  · simp [e]
section
variable {prog : Program} {w : World} {A : Around} {s : Shared}
theorem trip_cmp {vs : List Value} {k : Value → I3} (hp : ∀ v ∈ vs, IsTrip s.heap v (k v)) : SrtO.Cmp prog w A s (tuples' true) (fun p => p.1 ∈ vs) (SrtO.lt2 fun v u => HT.lexLt (l3 (k v)) (l3 (k u))) := by
  intro p q hm hm'
  have h1 := hp _ hm
  have h2 := hp _ hm'
  show wpAny (model prog w) A (keyLt' (tuples' true) p.1 q.1) (fun r s' => s' = s ∧ r = HT.lexLt (l3 (k p.1)) (l3 (k q.1))) (fun _ _ => False) s
  rw [lex3]
  obtain ⟨a, o, t, u, v, n, e, ho, hc, hd⟩ := h1
  obtain ⟨a', o', t', u', v', n', e', ho', hc', hd'⟩ := h2
  generalize (k p.1).1 = x at hd ⊢
  generalize (k p.1).2.1 = y at hd ⊢
  generalize (k p.1).2.2 = z at hd ⊢
  generalize (k q.1).1 = x' at hd' ⊢
  generalize (k q.1).2.1 = y' at hd' ⊢
  generalize (k q.1).2.2 = z' at hd' ⊢
  rw [e, e']
  refine PySem.W.kat_lt ho hd ho' hd' ?_
  show PySem.W.KatLex prog w A true (decide (3 < 3)) _ [(.int x t, .int x' t'), (.int y u, .int y' u'), (.int z v, .int z' v')] 0 s
  refine PySem.W.kat_cons (SeqAt.EqAt.int_int x t x' t' prog w _ _ ?_)
  refine PySem.W.kat_go (fun e1 => ?_) (fun e1 => ?_)
  · have ex : x = x' := by simpa using e1
    refine PySem.W.kat_yes (PySem.W.kat_cons (SeqAt.EqAt.int_int y u y' u' prog w _ _ ?_))
    refine PySem.W.kat_go (fun e2 => ?_) (fun e2 => ?_)
    · have ey : y = y' := by simpa using e2
      refine PySem.W.kat_yes (PySem.W.kat_cons (SeqAt.EqAt.int_int z v z' v' prog w _ _ ?_))
      rw [if_pos ex, if_pos ey]
      refine PySem.W.kat_go (fun e3 => ?_) (fun e3 => ?_)
      · have ez : z = z' := by simpa using e3
        exact PySem.W.kat_yes (PySem.W.kat_nil ⟨rfl, by rw [ez]; exact (decide_eq_false (Int.lt_irrefl _)).symm⟩)
      · exact PySem.W.kat_no (PySem.W.kat_one _ _ (PyProof.Rows.lt_int ⟨rfl, rfl⟩))
    · have ey : ¬ y = y' := by simpa using e2
      rw [if_pos ex, if_neg ey]
      exact PySem.W.kat_no (PySem.W.kat_one _ _ (PyProof.Rows.lt_int ⟨rfl, rfl⟩))
  · have ex : ¬ x = x' := by simpa using e1
    rw [if_neg ex]
    exact PySem.W.kat_no (oneLt_int ⟨rfl, rfl⟩)
theorem trips_sortableO {a : Addr} {vs : List Value} {k : Value → I3} (h0 : 0 < vs.length) (hp : ∀ v ∈ vs, IsTrip s.heap v (k v)) (ha : ∀ o, s.heap.get? a = some o → o.cls ≠ .type "tuple") : SrtO.SortableO prog w A s a vs fun v u => HT.lexLt (l3 (k v)) (l3 (k u)) := by
  intro h' keep
  have hp' : ∀ v ∈ vs, IsTrip h' v (k v) := fun v hm => (hp v hm).keeps fun b o e c => keep b o (fun z => by subst z; exact ha o e c) e
  obtain ⟨fs, h1, h2, h3⟩ := firsts3 fun v hm => ⟨_, hp' v hm⟩
  refine ⟨tuples' true, fun Q E hq => ?_, trip_cmp hp'⟩
  refine PySem.W.kat_kind (T := .type "int") h1 (by omega) (fun f hm => ?_) (by rfl) ?_
  · obtain ⟨x, t, rfl⟩ := h3 f hm
    exact PySem.W.Looks.now
  · have e : (Value.type "int" != Value.type "tuple") = true := by first | decide +kernel | rfl | decide
    rw [e]
    exact hq
end
section
variable {X : Cx}
/-- sorted(xs), xs a list of triples of ints -/
def rSortedT3 (K : PySem.W.Frag) : List V → Hp → VK → Prop := fun vs H Q => ∃ (a : Addr) (ys : List V) (k : V → I3), vs = [V.ref a] ∧ SqL K H a ys ∧ (∀ y ∈ ys, ∃ t, y = V.ref t ∧ H t = some (.tup ((l3 (k y)).map V.int))) ∧
  ∀ (zs : List V) (p : Addr), zs.Perm ys → zs.Pairwise (fun x y => HT.lexLt (l3 (k y)) (l3 (k x)) = false) → H p = none → Q (.ref p) (upd H p (.lst zs))
theorem cr_sortedT3 : CallR X (.builtin "sorted") (rSortedT3 X.K) := by
  intro pins s σ H vs us Q I r h
  obtain ⟨a, xs, k, rfl, hs, hx, q⟩ := h
  obtain ⟨its, rv, hl, hz⟩ := I.list hs
  obtain ⟨u, rfl, ru⟩ := vals1 r
  obtain rfl : u = Value.ref a := ru
  obtain ⟨e1, e2⟩ := refs_back rv fun x m => by
    obtain ⟨t, e, _⟩ := hx x m
    exact ⟨t, e⟩
  have hp : ∀ v ∈ its, IsTrip s.heap v (k (backV v)) := fun v hv => by
    obtain ⟨t, rfl⟩ := e2 v hv
    have hm : V.ref t ∈ xs := by rw [e1]; exact List.mem_map.mpr ⟨_, hv, rfl⟩
    obtain ⟨t', e, ht⟩ := hx _ hm
    cases e
    obtain ⟨_, its2, r2, o, ho, hc, n, hd⟩ := I.hok _ _ ht
    obtain ⟨u1, u2, u3, rfl, ri, rj, rk⟩ : ∃ u1 u2 u3, its2 = [u1, u2, u3] ∧ RelV (V.int (k (V.ref t)).1) u1 ∧ RelV (V.int (k (V.ref t)).2.1) u2 ∧ RelV (V.int (k (V.ref t)).2.2) u3 := by
      have r2 : Vals [V.int (k (V.ref t)).1, V.int (k (V.ref t)).2.1, V.int (k (V.ref t)).2.2] its2 := r2
      match its2, r2 with
      | _, .cons r1 (.cons r2 (.cons r3 .nil)) => exact ⟨_, _, _, rfl, r1, r2, r3⟩
    obtain ⟨t1, rfl⟩ := ri
    obtain ⟨t2, rfl⟩ := rj
    obtain ⟨t3, rfl⟩ := rk
    exact ⟨t, o, t1, t2, t3, n, rfl, ho, hc, hd⟩
  refine SrtO.sorted_ord (NtL.swo_lexL fun v => l3 (k (backV v))) hl.isList (by rw [← rv.length]; exact hz) (fun h2 h₁ a' ha kk => ?_) fun out h1 h2 => ?_
  · refine trips_sortableO (s := { s with heap := h₁ }) (k := fun v => k (backV v)) (by omega) (fun v hm => (hp v hm).keeps fun b o e _ => (kk b o e).2) fun o e => ?_
    have e' : some o = some (seqObj "list" its.toArray 0) := e.symm.trans ha
    cases e'
    intro c
    exact absurd (Value.type.inj c) (by decide)
  · obtain ⟨ep, he'⟩ := PyProof.Rows.sortedAll_at s.heap its out.toArray
    have hpm := h2.perm
    have h3 : ∀ u ∈ out, ∃ a, u = Value.ref a := fun u hu => e2 u (hpm.mem_iff.mp hu)
    have hlen : (out.map backV).length ≤ sizeLine := by rw [List.length_map, hpm.length_eq, ← rv.length]; exact hz
    refine ⟨.ref _, upd H (s.heap.objs.size + 1) (.lst (out.map backV)), I.laid (t' := s.toks) (fun _ _ => PyProof.Rows.sortedAll_old) (Nat.le_succ _) ⟨hlen, out, ep, vals_back h3, he'⟩, rfl, q _ _ ?_ ?_ (I.hok.fresh (Nat.le_succ _))⟩
    · rw [e1]; exact hpm.map backV
    · exact List.pairwise_map.mpr h1
theorem paired_len {α β : Type} {F : α → β → Prop} {ps : List α} {qs : List β} (h : Paired F ps qs) : ps.length = qs.length := by
  induction h with
  | nil => rfl
  | cons _ _ ih => rw [List.length_cons, List.length_cons, ih]
theorem paired_get {α β : Type} {F : α → β → Prop} {ps : List α} {qs : List β} (h : Paired F ps qs) : ∀ {j : Nat} {x : α}, ps[j]? = some x → ∃ y, qs[j]? = some y ∧ F x y := by
  induction h with
  | nil => intro j x h; simp at h
  | cons h1 _ ih =>
    intro j x h
    cases j with
    | zero => simp at h; subst h; exact ⟨_, rfl, h1⟩
    | succ j => rw [List.getElem?_cons_succ] at h ⊢; exact ih h
/-- list(d), d a dict with tuple keys: its keys -/
def rListDT : List V → Hp → VK → Prop := fun xs H Q => ∃ (a : Addr) (kvs : List (List L2.Key × V)), xs = [.ref a] ∧ H a = some (.dT kvs) ∧ ∀ (bs : List Addr) (p : Addr), bs.length = kvs.length → (∀ (j : Nat) (x : List L2.Key × V), kvs[j]? = some x → ∃ b, bs[j]? = some b ∧ H b = some (.tup (x.1.map kV))) → H p = none → Q (.ref p) (upd H p (.lst (bs.map V.ref)))
theorem call_listDT (hcalm : X.calm = true) : CallR X (.type "list") rListDT := by
  intro pins s σ H xs us Q I r q
  obtain ⟨a, kvs, ex, hd, q⟩ := q
  subst ex
  obtain ⟨u, eu, rx⟩ := vals1 r
  subst eu
  cases rx
  obtain ⟨z, lo, ys, rel, o, es, ep, ho, hx, hdt, hes, nd⟩ := I.hok a _ hd
  have hl := paired_len rel
  have hs : es.size = ys.length := by rw [← Array.length_toList, hes, List.length_map]
  refine PySem.W.kdl_call (PySem.KdlSrc.rawDict (d := a) (es := es) (ep := ep) lo) (I.ok.hd hcalm) ⟨o, ho, hx, hdt⟩ (by rw [hs, ← hl]; exact z) fun h' tk acc c' hk hD hacc => ?_
  have ea : acc.toList = (ys.map fun y => y.2.1).map Value.ref := by
    refine List.ext_getElem (by rw [Array.length_toList, hacc.1, List.length_map, List.length_map, hs]) fun j h1 h2 => ?_
    have hj : acc[j]? = some acc.toList[j] := by rw [← Array.getElem?_toList]; exact List.getElem?_eq_getElem h1
    obtain ⟨hi, ev⟩ := hacc.2 j _ hj
    rw [ev, List.getElem_map, List.getElem_map]
    have e2 : es.toList[j]? = some es[j] := by rw [Array.getElem?_toList]; exact Array.getElem?_eq_getElem hi
    rw [hes, List.getElem?_map, List.getElem?_eq_getElem (by rw [← hs]; exact hi)] at e2
    have e3 := Option.some.inj e2
    rw [← e3]
    rfl
  have hv : Vals ((ys.map fun y => y.2.1).map V.ref) acc.toList := by rw [ea]; exact of_nts _
  refine ⟨.ref s.heap.objs.size, upd H s.heap.objs.size (.lst ((ys.map fun y => y.2.1).map V.ref)), I.laid (t' := tk) hk (Nat.le_refl _)
    (show ObjOk X.prog X.w _ _ _ (.lst ((ys.map fun y => y.2.1).map V.ref)) from ⟨by rw [List.length_map, List.length_map, ← hl]; exact z, acc.toList, c', hv, by rw [Array.toArray_toList]; exact hD⟩), rfl, q _ _ (by rw [List.length_map, hl]) (fun j x hj => ?_) (I.hok.fresh (Nat.le_refl _))⟩
  obtain ⟨y, hy, e1, e2, _⟩ := paired_get rel hj
  exact ⟨y.2.1, by rw [List.getElem?_map, hy]; rfl, e2⟩
end
end AW

set_option linter.all false
set_option maxRecDepth 100000
set_option maxHeartbeats 4000000
/-! The data layer: values as data, without addresses. -/
namespace AW
open PySem PySem.Spec PyProof.Rows L2 LamX
/-- the tables of the lambdas, of a law's text -/
class Tbs where
  T : List (Addr × Str)
inductive D where
  | non | bl (b : Bool) | int (i : Int) | str (x : Str)
  | tup (ds : List D) | lst (ds : List D)
  | ins (C : Addr) (ns : List Str) (ds : List D)
  | pen (k l : Str)
  | scr (ns : List Int)
  | val (v : V)
  | lam (q : Str) (mk : Addr → Addr → HO)
  | at_ (u : V) (d : D)
  | edk
  | dk (ks : List Str) (ds : List D)
  | tb (d : D)
  | kt (ks : List Key)
  | dt (lk : Bool) (ks : List (List Key)) (ds : List D)
def penE (k l : Str) (c : Addr) (s r : Int) : List (Key × V) := [(Sum.inr "cells", .ref c), (Sum.inr k, .int s), (Sum.inr l, .int r)]
def IsPen (o : HO) : Prop := (∃ k l c s r, o = .dK (penE k l c s r)) ∨ ∃ ps, o = .tbl ps
variable [Tbs]
section
variable (K : PySem.W.Frag) (G : Hp) (B : Int)
mutual
def Rep : D → V → Prop
  | .non, v => v = .non
  | .bl b, v => v = .bl b
  | .int i, v => v = .int i
  | .str x, v => v = .str x
  | .tup ds, v => ∃ a vs, v = .ref a ∧ SqT K G a vs ∧ RepL ds vs
  | .lst ds, v => ∃ a vs, v = .ref a ∧ G a = some (.lst vs) ∧ RepL ds vs
  | .ins C ns ds, v => ∃ a dx vs, v = .ref a ∧ G a = some (.ins C dx (ns.zip vs)) ∧ ns.length = vs.length ∧ RepL ds vs
  | .pen k l, v => Tabs Tbs.T G ∧ ∃ (a c : Addr) (ns : List Int) (s r : Int), v = .ref a ∧ G a = some (.dK (penE k l c s r)) ∧ G c = some (.lst (ns.map V.int)) ∧ ns.length ≤ 63 ∧ 0 ≤ s ∧ s ≤ B
  | .val u, v => v = u
  | .at_ u d, v => v = u ∧ Rep d v
  | .tb d, v => Tabs Tbs.T G ∧ Rep d v
  | .edk, v => ∃ a, v = .ref a ∧ G a = some (.dK [])
  | .dk ks ds, v => ∃ a vs, v = .ref a ∧ G a = some (.dK (mergeK [] ((ks.zip vs).map fun p => ((Sum.inr p.1 : Key), p.2)))) ∧ ¬ IsPen (.dK (mergeK [] ((ks.zip vs).map fun p => ((Sum.inr p.1 : Key), p.2)))) ∧ RepL ds vs
  | .kt ks, v => ∃ a, v = .ref a ∧ G a = some (.tup (ks.map kV))
  | .dt lk ks ds, v => ∃ a vs, v = .ref a ∧ (G a = some (.dT (ks.zip vs)) ∨ lk = true ∧ ∃ o, G a = some (.frz o (.dT (ks.zip vs)))) ∧ ks.length = vs.length ∧ RepL ds vs
  | .lam q mk, v => ∃ f d, v = .ref f ∧ G f = some (mk f d) ∧ G d = some (CodeO d q) ∧ ¬ IsPen (mk f d)
  | .scr ns, v => Tabs Tbs.T G ∧ ∃ a, v = .ref a ∧ SqL K G a ((ns : List Int).map V.int)
def RepL : List D → List V → Prop
  | [], vs => vs = []
  | d :: ds, vs => ∃ v r, vs = v :: r ∧ Rep d v ∧ RepL ds r
end
end
def Sub (G H : Hp) : Prop := ∀ a o, G a = some o → H a = some o
structure Le (G : Hp) (B : Int) (G' : Hp) (B' : Int) : Prop where
  b : B ≤ B'
  keep : ∀ a o, G a = some o → ¬ IsPen o → G' a = some o
  pen : ∀ a k l c s r, G a = some (.dK (penE k l c s r)) → ∃ s' r', G' a = some (.dK (penE k l c s' r')) ∧ (0 ≤ s → s ≤ B → 0 ≤ s' ∧ s' ≤ B')
  tb : Tabs Tbs.T G → Tabs Tbs.T G'
theorem Le.refl (G : Hp) (B : Int) : Le G B G B := ⟨Int.le_refl _, fun _ _ h _ => h, fun _ _ _ _ s r h => ⟨s, r, h, fun a b => ⟨a, b⟩⟩, fun h => h⟩
theorem Le.trans {G G1 G2 : Hp} {B B1 B2 : Int} (a : Le G B G1 B1) (b : Le G1 B1 G2 B2) : Le G B G2 B2 :=
  ⟨Int.le_trans a.b b.b, fun c o h n => b.keep c o (a.keep c o h n) n, fun c k l q s r h => by
    obtain ⟨s1, r1, h1, k1⟩ := a.pen c k l q s r h
    obtain ⟨s2, r2, h2, k2⟩ := b.pen c k l q s1 r1 h1
    exact ⟨s2, r2, h2, fun x y => k2 (k1 x y).1 (k1 x y).2⟩, fun h => b.tb (a.tb h)⟩
theorem Le.of_sub {G H : Hp} {B B' : Int} (s : Sub G H) (b : B ≤ B') : Le G B H B' := ⟨b, fun a o h _ => s a o h, fun a k l c z r h => ⟨z, r, s _ _ h, fun x y => ⟨x, Int.le_trans y b⟩⟩, fun h => h.ext s⟩
theorem nopen_tup {xs : List V} : ¬ IsPen (.tup xs) := fun h => by
  rcases h with ⟨_, _, _, _, _, h⟩ | ⟨_, h⟩ <;> cases h
theorem nopen_lst {xs : List V} : ¬ IsPen (.lst xs) := fun h => by
  rcases h with ⟨_, _, _, _, _, h⟩ | ⟨_, h⟩ <;> cases h
theorem nopen_ins {C dx : Addr} {fs : List (Str × V)} : ¬ IsPen (.ins C dx fs) := fun h => by
  rcases h with ⟨_, _, _, _, _, h⟩ | ⟨_, h⟩ <;> cases h
theorem nopen_frz {o : Obj} {u : HO} : ¬ IsPen (.frz o u) := fun h => by
  rcases h with ⟨_, _, _, _, _, h⟩ | ⟨_, h⟩ <;> cases h
theorem nopen_edk : ¬ IsPen (.dK []) := fun h => by
  rcases h with ⟨_, _, _, _, _, h⟩ | ⟨_, h⟩ <;> cases h
theorem nopen_code {c : Addr} {q : Str} : ¬ IsPen (CodeO c q) := fun h => by
  unfold CodeO at h
  rcases h with ⟨_, _, _, _, _, h⟩ | ⟨_, h⟩ <;> cases h
theorem nopen_lamO {q : Str} {ar : Arguments} {bd : Expr} {sc : Scope} {cl : List (Str × Addr)} {f d : Addr} : ¬ IsPen (LamO q ar bd sc cl f d) := fun h => by
  unfold LamO at h
  rcases h with ⟨_, _, _, _, _, h⟩ | ⟨_, h⟩ <;> cases h
theorem nopen_dT {kvs : List (List Key × V)} : ¬ IsPen (.dT kvs) := fun h => by
  rcases h with ⟨_, _, _, _, _, h⟩ | ⟨_, h⟩ <;> cases h
theorem Le.rdT {G G' : Hp} {B B' : Int} {a : Addr} {kvs : List (List Key × V)} (l : Le G B G' B') (h : Rd G a (.dT kvs)) : Rd G' a (.dT kvs) := by
  rcases h with h | ⟨o, h⟩
  · exact .inl (l.keep _ _ h nopen_dT)
  · exact .inr ⟨o, l.keep _ _ h nopen_frz⟩
theorem Le.seqT {K : PySem.W.Frag} {G G' : Hp} {B B' : Int} {a : Addr} {xs : List V} (l : Le G B G' B') (h : SqT K G a xs) : SqT K G' a xs := by
  rcases h with (h | ⟨o, h⟩) | h
  · exact .inl (.inl (l.keep _ _ h nopen_tup))
  · exact .inl (.inr ⟨o, l.keep _ _ h nopen_frz⟩)
  · exact .inr h
theorem Le.seqL {K : PySem.W.Frag} {G G' : Hp} {B B' : Int} {a : Addr} {xs : List V} (l : Le G B G' B') (h : SqL K G a xs) : SqL K G' a xs := by
  rcases h with (h | ⟨o, h⟩) | h
  · exact .inl (.inl (l.keep _ _ h nopen_lst))
  · exact .inl (.inr ⟨o, l.keep _ _ h nopen_frz⟩)
  · exact .inr h
section
variable {K : PySem.W.Frag} {G G' : Hp} {B B' : Int}
mutual
theorem Rep.mono (l : Le G B G' B') : ∀ {d : D} {v : V}, Rep K G B d v → Rep K G' B' d v
  | .non, _, h => h
  | .bl _, _, h => h
  | .int _, _, h => h
  | .str _, _, h => h
  | .tup _, _, ⟨a, vs, e, h, r⟩ => ⟨a, vs, e, l.seqT h, RepL.mono l r⟩
  | .lst _, _, ⟨a, vs, e, h, r⟩ => ⟨a, vs, e, l.keep _ _ h nopen_lst, RepL.mono l r⟩
  | .ins _ _ _, _, ⟨a, dx, vs, e, h, n, r⟩ => ⟨a, dx, vs, e, l.keep _ _ h nopen_ins, n, RepL.mono l r⟩
  | .pen k j, _, ⟨hT, a, c, ns, s, r, e, h, hc, n, h0, h1⟩ => by
    obtain ⟨s', r', h', q⟩ := l.pen a k j c s r h
    exact ⟨l.tb hT, a, c, ns, s', r', e, h', l.keep _ _ hc nopen_lst, n, (q h0 h1).1, (q h0 h1).2⟩
  | .val _, _, h => h
  | .at_ _ _, _, ⟨e, h⟩ => ⟨e, Rep.mono l h⟩
  | .tb _, _, ⟨e, h⟩ => ⟨l.tb e, Rep.mono l h⟩
  | .edk, _, ⟨a, e, h⟩ => ⟨a, e, l.keep _ _ h nopen_edk⟩
  | .dk _ _, _, ⟨a, vs, e, h, n, r⟩ => ⟨a, vs, e, l.keep _ _ h n, n, RepL.mono l r⟩
  | .kt _, _, ⟨a, e, h⟩ => ⟨a, e, l.keep _ _ h nopen_tup⟩
  | .dt _ _ _, _, ⟨a, vs, e, h, n, r⟩ => ⟨a, vs, e, h.imp (fun z => l.keep _ _ z nopen_dT) (fun z => ⟨z.1, let ⟨o, y⟩ := z.2; ⟨o, l.keep _ _ y nopen_frz⟩⟩), n, RepL.mono l r⟩
  | .lam _ _, _, ⟨f, d, e, h1, h2, n⟩ => ⟨f, d, e, l.keep _ _ h1 n, l.keep _ _ h2 nopen_code, n⟩
  | .scr _, _, ⟨hT, a, e, h⟩ => ⟨l.tb hT, a, e, l.seqL h⟩
theorem RepL.mono (l : Le G B G' B') : ∀ {ds : List D} {vs : List V}, RepL K G B ds vs → RepL K G' B' ds vs
  | [], _, h => h
  | _ :: _, _, ⟨v, r, e, h, hr⟩ => ⟨v, r, e, Rep.mono l h, RepL.mono l hr⟩
end
theorem RepL.length : ∀ {ds : List D} {vs : List V}, RepL K G B ds vs → ds.length = vs.length
  | [], _, h => by rw [show _ = _ from h]; rfl
  | _ :: _, _, ⟨v, r, e, h, hr⟩ => by rw [e, List.length_cons, List.length_cons, RepL.length hr]
theorem RepL.get : ∀ {ds : List D} {vs : List V} {i : Nat} {d : D}, RepL K G B ds vs → ds[i]? = some d → ∃ v, vs[i]? = some v ∧ Rep K G B d v
  | [], _, _, _, _, e => by simp at e
  | _ :: _, _, 0, d, ⟨v, r, e, h, hr⟩, q => by
    simp at q; subst q
    exact ⟨v, by rw [e]; rfl, h⟩
  | _ :: _, _, i + 1, d, ⟨v, r, e, h, hr⟩, q => by
    obtain ⟨u, h1, h2⟩ := RepL.get (i := i) hr (by simpa using q)
    exact ⟨u, by rw [e]; simpa using h1, h2⟩
theorem RepL.get' : ∀ {ds : List D} {vs : List V} {i : Nat} {v : V}, RepL K G B ds vs → vs[i]? = some v → ∃ d, ds[i]? = some d ∧ Rep K G B d v
  | [], _, i, _, h, e => by rw [show _ = _ from h] at e; simp at e
  | d :: _, _, 0, v, ⟨u, r, e, h, hr⟩, q => by
    rw [e] at q; simp at q; subst q
    exact ⟨d, rfl, h⟩
  | d :: _, _, i + 1, v, ⟨u, r, e, h, hr⟩, q => by
    rw [e] at q
    obtain ⟨w, h1, h2⟩ := RepL.get' (i := i) hr (by simpa using q)
    exact ⟨w, by simpa using h1, h2⟩
theorem RepL.append : ∀ {ds es : List D} {vs ws : List V}, RepL K G B ds vs → RepL K G B es ws → RepL K G B (ds ++ es) (vs ++ ws)
  | [], _, _, _, h, k => by rw [show _ = _ from h]; exact k
  | _ :: _, _, _, _, ⟨v, r, e, h, hr⟩, k => ⟨v, r ++ _, by rw [e]; rfl, h, RepL.append hr k⟩
theorem RepL.take : ∀ {ds : List D} {vs : List V} (n : Nat), RepL K G B ds vs → RepL K G B (ds.take n) (vs.take n)
  | _, _, 0, _ => by simp [RepL]
  | [], _, n + 1, h => by rw [show _ = _ from h]; simp [RepL]
  | _ :: _, _, n + 1, ⟨v, r, e, h, hr⟩ => ⟨v, r.take n, by rw [e]; rfl, h, RepL.take n hr⟩
theorem RepL.drop : ∀ {ds : List D} {vs : List V} (n : Nat), RepL K G B ds vs → RepL K G B (ds.drop n) (vs.drop n)
  | _, _, 0, h => h
  | [], _, n + 1, h => by rw [show _ = _ from h]; simp [RepL]
  | _ :: _, _, n + 1, ⟨v, r, e, h, hr⟩ => by rw [e]; exact RepL.drop n hr
theorem RepL.ints : ∀ ns : List Int, RepL K G B (ns.map D.int) (ns.map V.int)
  | [] => rfl
  | _ :: r => ⟨_, _, rfl, rfl, RepL.ints r⟩
end
/-- no table, no tuple -/
abbrev NTb (o : HO) : Prop := (∀ ps, o ≠ .tbl ps) ∧ ∀ xs, o ≠ .tup xs
/-- the heap H with its known part G, grown to H' with G' -/
structure Ext (G H : Hp) (B : Int) (G' H' : Hp) (B' : Int) : Prop where
  le : Le G B G' B'
  sub : Sub G' H'
  fr : ∀ a o, H a = some o → G a = none → NTb o → H' a = some o ∧ G' a = none
theorem Ext.refl {G H : Hp} {B : Int} (s : Sub G H) : Ext G H B G H B := ⟨Le.refl _ _, s, fun _ _ h n _ => ⟨h, n⟩⟩
theorem Ext.trans {G H G1 H1 G2 H2 : Hp} {B B1 B2 : Int} (a : Ext G H B G1 H1 B1) (b : Ext G1 H1 B1 G2 H2 B2) : Ext G H B G2 H2 B2 :=
  ⟨a.le.trans b.le, b.sub, fun c o h n t => b.fr c o (a.fr c o h n t).1 (a.fr c o h n t).2 t⟩
/-- a new known object -/
theorem Ext.new {G H : Hp} {B : Int} {p : Addr} {o : HO} (s : Sub G H) (h : H p = none) : Ext G H B (upd G p o) (upd H p o) B := by
  have g : G p = none := by
    cases e : G p with
    | none => rfl
    | some u => rw [s _ _ e] at h; cases h
  refine ⟨Le.of_sub (fun a u e => by rw [upd_ne (ne_of_none e g)]; exact e) (Int.le_refl _), fun a u e => ?_, fun a u e n _ => ?_⟩
  · by_cases q : a = p
    · subst q; rw [upd_same] at e ⊢; exact e
    · rw [upd_ne q] at e ⊢; exact s _ _ e
  · have q := ne_of_none e h
    rw [upd_ne q, upd_ne q]
    exact ⟨e, n⟩
/-- a tuple that stands may be known -/
theorem Ext.learn {G H : Hp} {B : Int} {p : Addr} {xs : List V} (s : Sub G H) (h : H p = some (.tup xs)) : Ext G H B (upd G p (.tup xs)) H B := by
  have sub : Sub G (upd G p (.tup xs)) := fun a o e => by
    by_cases q : a = p
    · subst q; rw [upd_same, ← s _ _ e, h]
    · rw [upd_ne q]; exact e
  refine ⟨Le.of_sub sub (Int.le_refl _), fun a o e => ?_, fun a o e n t => ⟨e, ?_⟩⟩
  · by_cases q : a = p
    · subst q; rw [upd_same] at e; cases e; exact h
    · rw [upd_ne q] at e; exact s _ _ e
  · rw [upd_ne (fun q => by subst q; rw [h] at e; cases e; exact t.2 _ rfl)]; exact n
/-- a new object that is not told -/
theorem Ext.hid {G H : Hp} {B : Int} {p : Addr} {o : HO} (s : Sub G H) (h : H p = none) : Ext G H B G (upd H p o) B :=
  ⟨Le.refl _ _, fun a u e => by rw [upd_ne (ne_of_none (s _ _ e) h)]; exact s _ _ e, fun a u e n _ => ⟨by rw [upd_ne (ne_of_none e h)]; exact e, n⟩⟩
def EnvR (K : PySem.W.Frag) (G : Hp) (B : Int) : List (Option D) → L2.St → Prop
  | [], σ => σ = []
  | o :: ρ, σ => ∃ x r, σ = x :: r ∧ (∀ d, o = some d → ∃ v, x = some v ∧ Rep K G B d v) ∧ EnvR K G B ρ r
section
variable {K : PySem.W.Frag} {G G' : Hp} {B B' : Int}
theorem EnvR.mono (l : Le G B G' B') : ∀ {ρ : List (Option D)} {σ : L2.St}, EnvR K G B ρ σ → EnvR K G' B' ρ σ
  | [], _, h => h
  | _ :: _, _, ⟨x, r, e, h, hr⟩ => ⟨x, r, e, fun d q => let ⟨v, h1, h2⟩ := h d q; ⟨v, h1, h2.mono l⟩, EnvR.mono l hr⟩
theorem EnvR.get : ∀ {ρ : List (Option D)} {σ : L2.St} {i : Nat} {d : D}, EnvR K G B ρ σ → ρ[i]? = some (some d) → ∃ v, σ[i]? = some (some v) ∧ Rep K G B d v
  | [], _, _, _, _, e => by simp at e
  | _ :: _, _, 0, d, ⟨x, r, e, h, hr⟩, q => by
    simp at q; subst q
    obtain ⟨v, h1, h2⟩ := h d rfl
    exact ⟨v, by rw [e, h1]; rfl, h2⟩
  | _ :: _, _, i + 1, d, ⟨x, r, e, h, hr⟩, q => by
    obtain ⟨v, h1, h2⟩ := EnvR.get (i := i) hr (by simpa using q)
    exact ⟨v, by rw [e]; simpa using h1, h2⟩
theorem EnvR.set {d : D} {v : V} (hv : Rep K G B d v) : ∀ {ρ : List (Option D)} {σ : L2.St} (i : Nat), EnvR K G B ρ σ → EnvR K G B (ρ.set i (some d)) (σ.set i (some v))
  | [], _, _, h => by rw [show _ = _ from h]; exact rfl
  | _ :: _, _, 0, ⟨x, r, e, h, hr⟩ => ⟨some v, r, by rw [e]; rfl, fun d' q => by cases q; exact ⟨v, rfl, hv⟩, hr⟩
  | _ :: _, _, i + 1, ⟨x, r, e, h, hr⟩ => ⟨x, r.set i (some v), by rw [e]; rfl, h, EnvR.set hv i hr⟩
theorem EnvR.wipe1 : ∀ {ρ : List (Option D)} {σ : L2.St} (i : Nat), EnvR K G B ρ σ → EnvR K G B (ρ.set i none) (σ.set i none)
  | [], _, _, h => by rw [show _ = _ from h]; exact rfl
  | _ :: _, _, 0, ⟨x, r, e, h, hr⟩ => ⟨none, r, by rw [e]; rfl, (fun d' q => by cases q), hr⟩
  | _ :: _, _, i + 1, ⟨x, r, e, h, hr⟩ => ⟨x, r.set i none, by rw [e]; rfl, h, EnvR.wipe1 i hr⟩
theorem EnvR.len : ∀ {ρ : List (Option D)} {σ : L2.St}, EnvR K G B ρ σ → ρ.length = σ.length
  | [], _, h => by rw [show _ = _ from h]; rfl
  | _ :: _, _, ⟨x, r, e, h, hr⟩ => by rw [e, List.length_cons, List.length_cons, EnvR.len hr]
theorem EnvR.of_vals : ∀ {ds : List D} {vs : List V} (n : Nat), RepL K G B ds vs → EnvR K G B (ds.map some ++ List.replicate n none) (vs.map some ++ List.replicate n none)
  | [], _, n, h => by
    rw [show _ = _ from h]
    show EnvR K G B (List.replicate n none) (List.replicate n none)
    induction n with
    | zero => exact rfl
    | succ n ih => exact ⟨none, List.replicate n none, rfl, (fun d q => by cases q), ih⟩
  | d :: _, _, n, ⟨v, r, e, h, hr⟩ => ⟨some v, r.map some ++ List.replicate n none, by rw [e]; rfl, fun d' q => by cases q; exact ⟨v, rfl, h⟩, EnvR.of_vals n hr⟩
end
def wipeD (ρ : List (Option D)) : List Nat → List (Option D)
  | [] => ρ
  | v :: vs => (wipeD ρ vs).set v none
theorem EnvR.wipe {K : PySem.W.Frag} {G : Hp} {B : Int} {ρ : List (Option D)} {σ : L2.St} (h : EnvR K G B ρ σ) : ∀ vs : List Nat, EnvR K G B (wipeD ρ vs) (L2.wipe σ vs)
  | [] => h
  | v :: vs => EnvR.wipe1 v (EnvR.wipe h vs)
def startD (N : List Str) (ds : List D) : List (Option D) := ds.map some ++ List.replicate (N.length - ds.length) none
/-- what is wanted of errors: class, fields, the pens' bound -/
abbrev EW := Addr → Option (List Str × List D) → Int → Prop
def XOk (K : PySem.W.Frag) (E : XK) (e : EW) (G H : Hp) (B : Int) : Prop := ∀ C f B' G' H', e C f B' → Ext G H B G' H' B' →
  match f with
  | none => E (.ref C) none H'
  | some (ns, ds) => ∀ dx vs, H' dx = some (.xd (ns.zip vs)) → ns.length = vs.length → RepL K G' B' ds vs → E (.ref C) (some dx) H'
theorem XOk.ext {K : PySem.W.Frag} {E : XK} {e : EW} {G H G1 H1 : Hp} {B B1 : Int} (x : XOk K E e G H B) (h : Ext G H B G1 H1 B1) : XOk K E e G1 H1 B1 := fun C f B' G' H' q h' => x C f B' G' H' q (h.trans h')
abbrev KD := D → Int → Prop
abbrev KL := List D → Int → Prop
abbrev KE' := List (Option D) → Int → Prop
def KOk (K : PySem.W.Frag) (k : KD) (Q : VK) (G H : Hp) (B : Int) : Prop := ∀ d v B' G' H', k d B' → Ext G H B G' H' B' → Rep K G' B' d v → Q v H'
theorem KOk.ext {K : PySem.W.Frag} {k : KD} {Q : VK} {G H G1 H1 : Hp} {B B1 : Int} (x : KOk K k Q G H B) (h : Ext G H B G1 H1 B1) : KOk K k Q G1 H1 B1 := fun d v B' G' H' q h' => x d v B' G' H' q (h.trans h')
def NOk (K : PySem.W.Frag) (k : KE') (Q : L2.St → Hp → Prop) (G H : Hp) (B : Int) : Prop := ∀ ρ σ B' G' H', k ρ B' → Ext G H B G' H' B' → EnvR K G' B' ρ σ → Q σ H'
theorem NOk.ext {K : PySem.W.Frag} {k : KE'} {Q : L2.St → Hp → Prop} {G H G1 H1 : Hp} {B B1 : Int} (x : NOk K k Q G H B) (h : Ext G H B G1 H1 B1) : NOk K k Q G1 H1 B1 := fun d v B' G' H' q h' => x d v B' G' H' q (h.trans h')
/-- an expression -/
def We (K : PySem.W.Frag) (E : XK) (e : EW) (t : TE) (ρ : List (Option D)) (B : Int) (k : KD) : Prop := ∀ σ H G Q, Sub G H → EnvR K G B ρ σ → XOk K E e G H B → KOk K k Q G H B → t σ H Q
/-- a test -/
def Wt (K : PySem.W.Frag) (E : XK) (e : EW) (t : TT) (ρ : List (Option D)) (B : Int) (k : Bool → Int → Prop) : Prop := ∀ σ H G (Q : Bool → Hp → Prop), Sub G H → EnvR K G B ρ σ → XOk K E e G H B → (∀ b B' G' H', k b B' → Ext G H B G' H' B' → Q b H') → t σ H Q
/-- arguments -/
def Wa (K : PySem.W.Frag) (E : XK) (e : EW) (t : TA) (ρ : List (Option D)) (B : Int) (k : KL) : Prop := ∀ σ H G (Q : List V → Hp → Prop), Sub G H → EnvR K G B ρ σ → XOk K E e G H B → (∀ ds vs B' G' H', k ds B' → Ext G H B G' H' B' → RepL K G' B' ds vs → Q vs H') → t σ H Q
structure KS where
  nx : KE' := fun _ _ => False
  rt : KD
  bk : KE' := fun _ _ => False
  ct : KE' := fun _ _ => False
structure EndsOk (K : PySem.W.Frag) (κ : KS) (Dn : Ends) (G H : Hp) (B : Int) : Prop where
  nx : NOk K κ.nx Dn.nx G H B
  rt : KOk K κ.rt Dn.rt G H B
  bk : NOk K κ.bk Dn.bk G H B
  ct : NOk K κ.ct Dn.ct G H B
theorem EndsOk.ext {K : PySem.W.Frag} {κ : KS} {Dn : Ends} {G H G1 H1 : Hp} {B B1 : Int} (x : EndsOk K κ Dn G H B) (h : Ext G H B G1 H1 B1) : EndsOk K κ Dn G1 H1 B1 := ⟨x.nx.ext h, x.rt.ext h, x.bk.ext h, x.ct.ext h⟩
/-- a statement -/
def Ws (K : PySem.W.Frag) (E : XK) (e : EW) (t : TS) (ρ : List (Option D)) (B : Int) (κ : KS) : Prop := ∀ σ H G Dn, Sub G H → EnvR K G B ρ σ → XOk K E e G H B → EndsOk K κ Dn G H B → t Dn σ H
/-- a target -/
def Wg (K : PySem.W.Frag) (g : TG) (d : D) (ρ : List (Option D)) (B : Int) (k : KE') : Prop := ∀ v σ H G Q, Sub G H → EnvR K G B ρ σ → Rep K G B d v → NOk K k Q G H B → g v σ H Q
def Wgs (K : PySem.W.Frag) (g : TGs) (ds : List D) (ρ : List (Option D)) (B : Int) (k : KE') : Prop := ∀ vs σ H G Q, Sub G H → EnvR K G B ρ σ → RepL K G B ds vs → NOk K k Q G H B → g vs σ H Q
section
variable {K : PySem.W.Frag} {E : XK} {e : EW} {ρ : List (Option D)} {B : Int} {k : KD} {κ : KS} {ta tb : TE} {t : TA}
theorem We.at {t : TE} {d : D} (h : ∀ σ H G, Sub G H → EnvR K G B ρ σ → ∃ v, Rep K G B d v ∧ ∀ Q : VK, Q v H → t σ H Q) (hk : k d B) : We K E e t ρ B k := fun σ H G Q s en x q => by
  obtain ⟨v, r, f⟩ := h σ H G s en
  exact f Q (q d v B G H hk (Ext.refl s) r)
theorem we_var {i : Nat} {d : D} (h : ρ[i]? = some (some d)) (hk : k d B) : We K E e (tVar i) ρ B k :=
  We.at (fun σ H G s en => let ⟨v, h1, h2⟩ := en.get h; ⟨v, h2, fun Q q => ⟨v, h1, q⟩⟩) hk
theorem we_int {i : Int} (hk : k (.int i) B) : We K E e (tC (.int i)) ρ B k := We.at (d := (.int i)) (fun σ H G s en => ⟨.int i, rfl, fun Q q => q⟩) hk
theorem we_bl {i : Bool} (hk : k (.bl i) B) : We K E e (tC (.bl i)) ρ B k := We.at (d := (.bl i)) (fun σ H G s en => ⟨.bl i, rfl, fun Q q => q⟩) hk
theorem we_str {i : Str} (hk : k (.str i) B) : We K E e (tC (.str i)) ρ B k := We.at (d := (.str i)) (fun σ H G s en => ⟨.str i, rfl, fun Q q => q⟩) hk
theorem we_val {v : V} (hk : k (.val v) B) : We K E e (tC v) ρ B k := We.at (d := .val v) (fun σ H G s en => ⟨v, rfl, fun Q q => q⟩) hk
theorem we_non (hk : k .non B) : We K E e (tC .non) ρ B k := We.at (d := .non) (fun σ H G s en => ⟨.non, rfl, fun Q q => q⟩) hk
theorem We.imp {t : TE} {k' : KD} (h : We K E e t ρ B k) (f : ∀ d B', k d B' → k' d B') : We K E e t ρ B k' := fun σ H G Q s en x q => h σ H G Q s en x fun d v B' G' H' hk => q d v B' G' H' (f d B' hk)
/-- two values -/
def Ro (K : PySem.W.Frag) (E : XK) (e : EW) (r : R2) (a b : D) (B : Int) (k : KD) : Prop := ∀ x y H G Q, Sub G H → Rep K G B a x → Rep K G B b y → XOk K E e G H B → KOk K k Q G H B → r x y H Q
theorem we_op {r : R2} (h : We K E e ta ρ B fun a B1 => We K E e tb ρ B1 fun b B2 => Ro K E e r a b B2 k) : We K E e (tOp r ta tb) ρ B k := fun σ H G Q s en x q =>
  h σ H G _ s en x fun a v B1 G1 H1 h1 e1 r1 => h1 σ H1 G1 _ e1.sub (en.mono e1.le) (x.ext e1) fun b u B2 G2 H2 h2 e2 r2 =>
    h2 v u H2 G2 Q e2.sub (r1.mono e2.le) r2 (x.ext (e1.trans e2)) (q.ext (e1.trans e2))
theorem ro_i0 {f : Int → Int → Int} {i j : Int} (h : k (.int (f i j)) B) : Ro K E e (rI0 fun i j => V.int (f i j)) (.int i) (.int j) B k := fun x y H G Q s r1 r2 _ q =>
  ⟨i, j, r1, r2, q _ _ _ _ _ h (Ext.refl s) rfl⟩
theorem ro_b0 {f : Int → Int → Bool} {i j : Int} (h : k (.bl (f i j)) B) : Ro K E e (rI0 fun i j => V.bl (f i j)) (.int i) (.int j) B k := fun x y H G Q s r1 r2 _ q =>
  ⟨i, j, r1, r2, q _ _ _ _ _ h (Ext.refl s) rfl⟩
theorem ro_i {f : Int → Int → Int} {C : Int → Int → Prop} {i j : Int} (c : C i j) (h : k (.int (f i j)) B) : Ro K E e (rI C fun i j => V.int (f i j)) (.int i) (.int j) B k := fun x y H G Q s r1 r2 _ q =>
  ⟨i, j, r1, r2, c, q _ _ _ _ _ h (Ext.refl s) rfl⟩
theorem we_un {r : V → Hp → VK → Prop} (h : We K E e ta ρ B fun a B1 => ∀ x H G Q, Sub G H → Rep K G B1 a x → XOk K E e G H B1 → KOk K k Q G H B1 → r x H Q) : We K E e (tUn r ta) ρ B k := fun σ H G Q s en x q =>
  h σ H G _ s en x fun a v B1 G1 H1 h1 e1 r1 => h1 v H1 G1 Q e1.sub r1 (x.ext e1) (q.ext e1)
theorem we_neg {f : Int → Int} (h : We K E e ta ρ B fun a B1 => ∃ i, a = .int i ∧ k (.int (f i)) B1) : We K E e (tUn (rU fun i => V.int (f i)) ta) ρ B k :=
  we_un (h.imp fun a B1 ⟨i, ea, hk⟩ x H G Q s r xo q => by
    subst ea
    exact ⟨i, r, q _ _ _ _ _ hk (Ext.refl s) rfl⟩)
theorem wa_nil {k : KL} (h : k [] B) : Wa K E e tNil ρ B k := fun σ H G Q s en x q => q _ _ _ _ _ h (Ext.refl s) rfl
theorem wa_cons {k : KL} (h : We K E e ta ρ B fun a B1 => Wa K E e t ρ B1 fun ds B2 => k (a :: ds) B2) : Wa K E e (tCons ta t) ρ B k := fun σ H G Q s en x q =>
  h σ H G _ s en x fun a v B1 G1 H1 h1 e1 r1 => h1 σ H1 G1 _ e1.sub (en.mono e1.le) (x.ext e1) fun ds vs B2 G2 H2 h2 e2 r2 => q _ _ _ _ _ h2 (e1.trans e2) ⟨v, vs, rfl, r1.mono e2.le, r2⟩
theorem we_tup (h : Wa K E e t ρ B fun ds B1 => ds.length ≤ sizeLine ∧ k (.tup ds) B1) : We K E e (tTup t) ρ B k := fun σ H G Q s en x q =>
  h σ H G _ s en x fun ds vs B1 G1 H1 ⟨h0, h1⟩ e1 r1 => ⟨by rw [← r1.length]; exact h0, fun p np => q _ _ _ _ _ h1 (e1.trans (Ext.new e1.sub np)) ⟨p, vs, rfl, SqT.of upd_same, r1.mono (Ext.new (B := B1) e1.sub np).le⟩⟩
theorem we_lst (h : Wa K E e t ρ B fun ds B1 => ds.length ≤ sizeLine ∧ k (.lst ds) B1) : We K E e (tLst t) ρ B k := fun σ H G Q s en x q =>
  h σ H G _ s en x fun ds vs B1 G1 H1 ⟨h0, h1⟩ e1 r1 => ⟨by rw [← r1.length]; exact h0, fun p np => q _ _ _ _ _ h1 (e1.trans (Ext.new e1.sub np)) ⟨p, vs, rfl, upd_same, r1.mono (Ext.new (B := B1) e1.sub np).le⟩⟩
theorem we_fld {f : Str} (h : We K E e ta ρ B fun d B1 => ∃ C ns ds d', d = .ins C ns ds ∧ Cls K C ∧ NoAttr K C f ∧ (ns.zip ds).lookup f = some d' ∧ k d' B1) : We K E e (tFld K ta f) ρ B k := fun σ H G Q s en x q =>
  h σ H G _ s en x fun d v B1 G1 H1 ⟨C, ns, ds, d', ed, c, n, l, h1⟩ e1 r1 => by
    subst ed
    obtain ⟨a, dx, vs, rfl, ha, hl, hr⟩ := r1
    have z : ∀ (ns : List Str) (ds : List D) (vs : List V), RepL K G1 B1 ds vs → (ns.zip ds).lookup f = some d' → ∃ v, (ns.zip vs).lookup f = some v ∧ Rep K G1 B1 d' v := by
      intro ns
      induction ns with
      | nil => intro ds vs _ h; simp at h
      | cons n r ih =>
        intro ds vs hr h
        cases ds with
        | nil => simp at h
        | cons d0 ds =>
          obtain ⟨v0, vr, rfl, h0, h1⟩ := hr
          rw [List.zip_cons_cons, List.lookup_cons] at h ⊢
          cases hq : (f == n) with
          | true => rw [hq] at h; exact ⟨v0, rfl, by cases h; exact h0⟩
          | false => rw [hq] at h; exact ih ds vr h1 h
    obtain ⟨v, lv, rv⟩ := z ns ds vs hr l
    exact ⟨a, C, dx, _, v, rfl, e1.sub _ _ ha, c, n, lv, q _ _ _ _ _ h1 e1 rv⟩
theorem we_ifE {c : TT} (h : Wt K E e c ρ B fun b B1 => (b = true → We K E e ta ρ B1 k) ∧ (b = false → We K E e tb ρ B1 k)) : We K E e (tIf c ta tb) ρ B k := fun σ H G Q s en x q =>
  h σ H G _ s en x fun b B1 G1 H1 h1 e1 => by
    cases b with
    | true => exact h1.1 rfl σ H1 G1 Q e1.sub (en.mono e1.le) (x.ext e1) (q.ext e1)
    | false => exact h1.2 rfl σ H1 G1 Q e1.sub (en.mono e1.le) (x.ext e1) (q.ext e1)
theorem we_and (h : We K E e ta ρ B fun d B1 => ∃ b, d = .bl b ∧ (b = true → We K E e tb ρ B1 k) ∧ (b = false → k (.bl false) B1)) : We K E e (tAndV ta tb) ρ B k := fun σ H G Q s en x q =>
  h σ H G _ s en x fun d v B1 G1 H1 ⟨b, ed, h1, h2⟩ e1 r1 => by
    subst ed
    refine ⟨b, r1, ?_⟩
    cases b with
    | true => exact h1 rfl σ H1 G1 Q e1.sub (en.mono e1.le) (x.ext e1) (q.ext e1)
    | false => exact q _ _ _ _ _ (h2 rfl) e1 rfl
theorem we_or (h : We K E e ta ρ B fun d B1 => ∃ b, d = .bl b ∧ (b = true → k (.bl true) B1) ∧ (b = false → We K E e tb ρ B1 k)) : We K E e (tOrV ta tb) ρ B k := fun σ H G Q s en x q =>
  h σ H G _ s en x fun d v B1 G1 H1 ⟨b, ed, h1, h2⟩ e1 r1 => by
    subst ed
    refine ⟨b, r1, ?_⟩
    cases b with
    | true => exact q _ _ _ _ _ (h1 rfl) e1 rfl
    | false => exact h2 rfl σ H1 G1 Q e1.sub (en.mono e1.le) (x.ext e1) (q.ext e1)
theorem we_not (h : We K E e ta ρ B fun d B1 => ∃ b, d = .bl b ∧ k (.bl (!b)) B1) : We K E e (tNotV ta) ρ B k := fun σ H G Q s en x q =>
  h σ H G _ s en x fun d v B1 G1 H1 ⟨b, ed, h1⟩ e1 r1 => by
    subst ed
    exact ⟨b, r1, q _ _ _ _ _ h1 e1 rfl⟩
def isNon : D → Bool
  | .non => true
  | .val v => decide (v = .non)
  | .at_ _ d => isNon d
  | .tb d => isNon d
  | _ => false
theorem Rep.isNon {G : Hp} {B : Int} : ∀ {d : D} {v : V}, Rep K G B d v → decide (v = V.non) = isNon d
  | .non, _, h => by rw [show _ = _ from h]; rfl
  | .bl _, _, h => by rw [show _ = _ from h]; rfl
  | .int _, _, h => by rw [show _ = _ from h]; rfl
  | .str _, _, h => by rw [show _ = _ from h]; rfl
  | .tup _, _, ⟨a, vs, e, _⟩ => by rw [e]; rfl
  | .lst _, _, ⟨a, vs, e, _⟩ => by rw [e]; rfl
  | .ins _ _ _, _, ⟨a, dx, vs, e, _⟩ => by rw [e]; rfl
  | .pen _ _, _, ⟨_, a, _, _, _, _, e, _⟩ => by rw [e]; rfl
  | .scr _, _, ⟨_, a, e, _⟩ => by rw [e]; rfl
  | .lam _ _, _, ⟨f, d, e, _⟩ => by rw [e]; rfl
  | .at_ _ d, _, ⟨_, h⟩ => Rep.isNon (d := d) h
  | .tb d, _, ⟨_, h⟩ => Rep.isNon (d := d) h
  | .edk, _, ⟨a, e, _⟩ => by rw [e]; rfl
  | .kt _, _, ⟨a, e, _⟩ => by rw [e]; rfl
  | .dt _ _ _, _, ⟨a, vs, e, _⟩ => by rw [e]; rfl
  | .dk _ _, _, ⟨a, vs, e, _⟩ => by rw [e]; rfl
  | .val _, _, h => by rw [show _ = _ from h]; rfl
theorem we_isN (h : We K E e ta ρ B fun d B1 => k (.bl (isNon d)) B1) : We K E e (tIsN ta) ρ B k := fun σ H G Q s en x q =>
  h σ H G _ s en x fun d v B1 G1 H1 h1 e1 r1 => by
    rw [r1.isNon]
    exact q _ _ _ _ _ h1 e1 rfl
theorem we_notN (h : We K E e ta ρ B fun d B1 => k (.bl (!isNon d)) B1) : We K E e (tNotN ta) ρ B k := fun σ H G Q s en x q =>
  h σ H G _ s en x fun d v B1 G1 H1 h1 e1 r1 => by
    rw [r1.isNon]
    exact q _ _ _ _ _ h1 e1 rfl
/-! tests -/
variable {kb : Bool → Int → Prop} {c d : TT}
theorem wt_val (h : We K E e ta ρ B fun d B1 => ∃ b, d = .bl b ∧ kb b B1) : Wt K E e (tB ta) ρ B kb := fun σ H G Q s en x q =>
  h σ H G _ s en x fun d v B1 G1 H1 ⟨b, ed, h1⟩ e1 r1 => by
    subst ed
    exact ⟨b, r1, q _ _ _ _ h1 e1⟩
theorem wt_test (h : We K E e ta ρ B fun d B1 => ∃ b, d = .bl b ∧ kb b B1) : Wt K E e (tTest ta) ρ B kb := fun σ H G Q s en x q =>
  h σ H G _ s en x fun d v B1 G1 H1 ⟨b, ed, h1⟩ e1 r1 => by
    subst ed
    exact ⟨b, r1, q _ _ _ _ h1 e1⟩
theorem wt_not (h : Wt K E e c ρ B fun b B1 => kb (!b) B1) : Wt K E e (tNot c) ρ B kb := fun σ H G Q s en x q =>
  h σ H G _ s en x fun b B1 G1 H1 h1 e1 => q _ _ _ _ h1 e1
theorem wt_and (h : Wt K E e c ρ B fun b B1 => (b = true → Wt K E e d ρ B1 kb) ∧ (b = false → kb false B1)) : Wt K E e (tAnd c d) ρ B kb := fun σ H G Q s en x q =>
  h σ H G _ s en x fun b B1 G1 H1 h1 e1 => by
    cases b with
    | true => exact h1.1 rfl σ H1 G1 Q e1.sub (en.mono e1.le) (x.ext e1) fun b B2 G2 H2 h2 e2 => q _ _ _ _ h2 (e1.trans e2)
    | false => exact q _ _ _ _ (h1.2 rfl) e1
theorem wt_or (h : Wt K E e c ρ B fun b B1 => (b = true → kb true B1) ∧ (b = false → Wt K E e d ρ B1 kb)) : Wt K E e (tOr c d) ρ B kb := fun σ H G Q s en x q =>
  h σ H G _ s en x fun b B1 G1 H1 h1 e1 => by
    cases b with
    | true => exact q _ _ _ _ (h1.1 rfl) e1
    | false => exact h1.2 rfl σ H1 G1 Q e1.sub (en.mono e1.le) (x.ext e1) fun b B2 G2 H2 h2 e2 => q _ _ _ _ h2 (e1.trans e2)
/-! statements -/
variable {ts us : TS}
theorem ws_ret (h : We K E e ta ρ B κ.rt) : Ws K E e (tRet ta) ρ B κ := fun σ H G Dn s en x q => h σ H G _ s en x q.rt
theorem ws_retN (h : κ.rt .non B) : Ws K E e tRetN ρ B κ := fun σ H G Dn s en x q => q.rt _ _ _ _ _ h (Ext.refl s) rfl
theorem ws_next (h : κ.nx ρ B) : Ws K E e tNext ρ B κ := fun σ H G Dn s en x q => q.nx _ _ _ _ _ h (Ext.refl s) en
theorem ws_break (h : κ.bk ρ B) : Ws K E e tBreak ρ B κ := fun σ H G Dn s en x q => q.bk _ _ _ _ _ h (Ext.refl s) en
theorem ws_cont (h : κ.ct ρ B) : Ws K E e tCont ρ B κ := fun σ H G Dn s en x q => q.ct _ _ _ _ _ h (Ext.refl s) en
theorem ws_seq (h : Ws K E e ts ρ B { κ with nx := fun ρ' B' => Ws K E e us ρ' B' κ }) : Ws K E e (tSeq ts us) ρ B κ := fun σ H G Dn s en x q =>
  h σ H G _ s en x ⟨fun ρ' σ' B' G' H' h1 e1 en1 => h1 σ' H' G' Dn e1.sub en1 (x.ext e1) (q.ext e1), q.rt, q.bk, q.ct⟩
theorem ws_drop (h : We K E e ta ρ B fun _ B1 => κ.nx ρ B1) : Ws K E e (tDrop ta) ρ B κ := fun σ H G Dn s en x q =>
  h σ H G _ s en x fun d v B1 G1 H1 h1 e1 r1 => q.nx _ _ _ _ _ h1 e1 (en.mono e1.le)
theorem ws_if (h : Wt K E e c ρ B fun b B1 => (b = true → Ws K E e ts ρ B1 κ) ∧ (b = false → Ws K E e us ρ B1 κ)) : Ws K E e (tIfS c ts us) ρ B κ := fun σ H G Dn s en x q =>
  h σ H G _ s en x fun b B1 G1 H1 h1 e1 => by
    cases b with
    | true => exact h1.1 rfl σ H1 G1 Dn e1.sub (en.mono e1.le) (x.ext e1) (q.ext e1)
    | false => exact h1.2 rfl σ H1 G1 Dn e1.sub (en.mono e1.le) (x.ext e1) (q.ext e1)
theorem ws_set {i : Nat} (h : We K E e ta ρ B fun d B1 => κ.nx (ρ.set i (some d)) B1) : Ws K E e (tAsg ta (gName i)) ρ B κ := fun σ H G Dn s en x q =>
  h σ H G _ s en x fun d v B1 G1 H1 h1 e1 r1 => q.nx _ _ _ _ _ h1 e1 (EnvR.set r1 i (en.mono e1.le))
theorem ws_asg {g : TG} (h : We K E e ta ρ B fun d B1 => Wg K g d ρ B1 κ.nx) : Ws K E e (tAsg ta g) ρ B κ := fun σ H G Dn s en x q =>
  h σ H G _ s en x fun d v B1 G1 H1 h1 e1 r1 => h1 v σ H1 G1 _ e1.sub (en.mono e1.le) r1 (q.nx.ext e1)
theorem ws_par {i j : Nat} (h : Wa K E e t ρ B fun ds B1 => ∃ a b, ds = [a, b] ∧ κ.nx ((ρ.set i (some a)).set j (some b)) B1) : Ws K E e (tPar i j t) ρ B κ := fun σ H G Dn s en x q =>
  h σ H G _ s en x fun ds vs B1 G1 H1 ⟨a, b, ed, h1⟩ e1 r1 => by
    subst ed
    obtain ⟨v, _, rfl, ra, u, _, rfl, rb, rfl⟩ := r1
    exact ⟨v, u, rfl, q.nx _ _ _ _ _ h1 e1 (EnvR.set rb j (EnvR.set ra i (en.mono e1.le)))⟩
theorem ws_par3 {i j l : Nat} (h : Wa K E e t ρ B fun ds B1 => ∃ a b c, ds = [a, b, c] ∧ κ.nx (((ρ.set i (some a)).set j (some b)).set l (some c)) B1) : Ws K E e (L2.tPar3 i j l t) ρ B κ := fun σ H G Dn s en x q =>
  h σ H G _ s en x fun ds vs B1 G1 H1 ⟨a, b, c, ed, h1⟩ e1 r1 => by
    subst ed
    obtain ⟨v, _, rfl, ra, u, _, rfl, rb, w, _, rfl, rc, rfl⟩ := r1
    exact ⟨v, u, w, rfl, q.nx _ _ _ _ _ h1 e1 (EnvR.set rc l (EnvR.set rb j (EnvR.set ra i (en.mono e1.le))))⟩
/-! targets -/
theorem wg_name {i : Nat} {d : D} {k : KE'} (h : k (ρ.set i (some d)) B) : Wg K (gName i) d ρ B k := fun v σ H G Q s en r q => q _ _ _ _ _ h (Ext.refl s) (EnvR.set r i en)
theorem wgs_nil {k : KE'} (h : k ρ B) : Wgs K gNil [] ρ B k := fun vs σ H G Q s en r q => ⟨r, q _ _ _ _ _ h (Ext.refl s) en⟩
theorem wgs_cons {g : TG} {gs : TGs} {d : D} {ds : List D} {k : KE'} (h : Wg K g d ρ B fun ρ1 B1 => Wgs K gs ds ρ1 B1 k) : Wgs K (gCons g gs) (d :: ds) ρ B k := fun vs σ H G Q s en r q => by
  obtain ⟨v, w, rfl, r1, r2⟩ := r
  exact ⟨v, w, rfl, h v σ H G _ s en r1 fun ρ1 σ1 B1 G1 H1 h1 e1 en1 => h1 w σ1 H1 G1 Q e1.sub en1 (r2.mono e1.le) (q.ext e1)⟩
theorem wg_tup {n : Nat} {gs : TGs} {ds : List D} {k : KE'} (hn : ds.length = n) (h : Wgs K gs ds ρ B k) : Wg K (gTup K n gs) (.tup ds) ρ B k := fun v σ H G Q s en r q => by
  obtain ⟨a, vs, rfl, ha, hr⟩ := r
  exact ⟨a, vs, rfl, (Le.of_sub (B := B) (B' := B) s (Int.le_refl _)).seqT ha, by rw [← hr.length]; exact hn, h vs σ H G Q s en hr q⟩
end
end AW

set_option linter.all false
set_option maxRecDepth 100000
set_option maxHeartbeats 4000000
namespace AW
open PySem PySem.Spec PyProof.Rows L2
variable [Tbs]
/-! ### defs by their promise about data -/
abbrev Pr := List D → Int → KD → EW → Prop
def noE : EW := fun _ _ _ => False
def spD (K : PySem.W.Frag) (pr : Pr) : Sp := fun vs H Q E => ∃ G ds B k e, Sub G H ∧ RepL K G B ds vs ∧ pr ds B k e ∧ KOk K k Q G H B ∧ XOk K E e G H B
theorem XOk.no {K : PySem.W.Frag} {E : XK} {G H : Hp} {B : Int} : XOk K E noE G H B := fun _ _ _ _ _ h => h.elim
theorem spD_len {K : PySem.W.Frag} {pr : Pr} {n : Nat} (h : ∀ ds B k e, pr ds B k e → ds.length = n) : ∀ vs H Q E, spD K pr vs H Q E → vs.length = n := fun vs H Q E ⟨G, ds, B, k, e, _, r, p, _⟩ => by
  rw [← r.length]
  exact h _ _ _ _ p
section
variable {K : PySem.W.Frag} {E E' : XK} {e : EW} {ρ : List (Option D)} {B : Int} {k : KD} {κ : KS} {ta tb : TE} {t : TA} {pr : Pr}
theorem we_call (h : Wa K E e t ρ B fun ds B1 => pr ds B1 k noE) : We K E e (tCall (spD K pr) [] E' t) ρ B k := fun σ H G Q s en x q =>
  h σ H G _ s en x fun ds vs B1 G1 H1 h1 e1 r1 => by
    show spD K pr (vs ++ []) H1 Q E'
    rw [List.append_nil]
    exact ⟨G1, ds, B1, k, noE, e1.sub, r1, h1, q.ext e1, XOk.no⟩
theorem we_callE (h : Wa K E e t ρ B fun ds B1 => pr ds B1 k e) : We K E e (tCall (spD K pr) [] E t) ρ B k := fun σ H G Q s en x q =>
  h σ H G _ s en x fun ds vs B1 G1 H1 h1 e1 r1 => by
    show spD K pr (vs ++ []) H1 Q E
    rw [List.append_nil]
    exact ⟨G1, ds, B1, k, e, e1.sub, r1, h1, q.ext e1, x.ext e1⟩
theorem lookup_zip_none {m : Str} : ∀ {ns : List Str} {vs : List V}, (∀ n ∈ ns, (m == n) = false) → (ns.zip vs).lookup m = none
  | [], _, _ => by simp
  | n :: ns, [], _ => by simp
  | n :: ns, v :: vs, h => by
    rw [List.zip_cons_cons, List.lookup_cons, h n (List.mem_cons_self ..)]
    exact lookup_zip_none fun q hq => h q (List.mem_cons_of_mem _ hq)
theorem we_meth {C : Addr} {m : Str} (h : We K E e ta ρ B fun d B1 => ∃ ns fs, d = .ins C ns fs ∧ (∀ n ∈ ns, (m == n) = false) ∧ Wa K E e t ρ B1 fun ds B2 => pr (d :: ds) B2 k noE) : We K E e (tMeth C m (spD K pr) [] E' ta t) ρ B k := fun σ H G Q s en x q =>
  h σ H G _ s en x fun d v B1 G1 H1 ⟨ns, fs, ed, nm, h1⟩ e1 r1 => by
    subst ed
    obtain ⟨a, dx, vs, rfl, ha, hl, hr⟩ := id r1
    refine ⟨a, dx, _, rfl, e1.sub _ _ ha, lookup_zip_none nm, ?_⟩
    refine h1 σ H1 G1 _ e1.sub (en.mono e1.le) (x.ext e1) fun ds ws B2 G2 H2 h2 e2 r2 => ?_
    show spD K pr (.ref a :: (ws ++ [])) H2 Q E'
    rw [List.append_nil]
    exact ⟨G2, .ins C ns fs :: ds, B2, k, noE, e2.sub, ⟨_, _, rfl, r1.mono e2.le, r2⟩, h2, (q.ext e1).ext e2, XOk.no⟩
theorem we_methE {C : Addr} {m : Str} (h : We K E e ta ρ B fun d B1 => ∃ ns fs, d = .ins C ns fs ∧ (∀ n ∈ ns, (m == n) = false) ∧ Wa K E e t ρ B1 fun ds B2 => pr (d :: ds) B2 k e) : We K E e (tMeth C m (spD K pr) [] E ta t) ρ B k := fun σ H G Q s en x q =>
  h σ H G _ s en x fun d v B1 G1 H1 ⟨ns, fs, ed, nm, h1⟩ e1 r1 => by
    subst ed
    obtain ⟨a, dx, vs, rfl, ha, hl, hr⟩ := id r1
    refine ⟨a, dx, _, rfl, e1.sub _ _ ha, lookup_zip_none nm, ?_⟩
    refine h1 σ H1 G1 _ e1.sub (en.mono e1.le) (x.ext e1) fun ds ws B2 G2 H2 h2 e2 r2 => ?_
    show spD K pr (.ref a :: (ws ++ [])) H2 Q E
    rw [List.append_nil]
    exact ⟨G2, .ins C ns fs :: ds, B2, k, e, e2.sub, ⟨_, _, rfl, r1.mono e2.le, r2⟩, h2, (q.ext e1).ext e2, (x.ext e1).ext e2⟩
/-- the body runs -/
theorem run_body {N : List Str} {ts : TS} {G H : Hp} {ds : List D} {vs : List V} {Q : VK} (hs : Sub G H) (hr : RepL K G B ds vs) (hk : KOk K k Q G H B) (hx : XOk K E e G H B) (hN : startD N ds = ρ) (h : Ws K E e ts ρ B { nx := fun _ B' => k .non B', rt := k }) :
    ts { nx := fun _ H' => Q .non H', rt := Q } (L2.start N vs) H := by
  subst hN
  refine h _ H G _ hs ?_ hx ⟨fun ρ' σ' B' G' H' h1 e1 _ => hk _ _ _ _ _ h1 e1 rfl, hk, fun _ _ _ _ _ h => h.elim, fun _ _ _ _ _ h => h.elim⟩
  unfold startD L2.start
  rw [hr.length]
  exact EnvR.of_vals _ hr
/-! ### a class made -/
/-- an __init__'s promise: from the arguments, the fields -/
def spI (K : PySem.W.Frag) (C : Addr) (ns : List Str) (pr : List D → Int → (List D → Int → Prop) → EW → Prop) : Sp := fun vs H Q E => ∃ p dx ws G ds B k e, vs = .ref p :: ws ∧ H p = some (.ins C dx []) ∧ G p = none ∧ G dx = none ∧ dx ≠ p ∧ H dx = some (.own p) ∧
  Sub G H ∧ RepL K G B ds ws ∧ pr ds B k e ∧
  (∀ fs us B' G' H', k fs B' → Le G B G' B' → Sub G' H' → (∀ a o, H a = some o → G a = none → a ≠ p → NTb o → H' a = some o ∧ G' a = none) → G' p = none → H' p = some (.ins C dx (ns.zip us)) → ns.length = us.length → RepL K G' B' fs us → Q .non H') ∧
  XOk K E e G H B
theorem RepL.non_mem {G : Hp} {p : Addr} (n : G p = none) : True := trivial
theorem we_make {C : Addr} {ns : List Str} {pi : List D → Int → (List D → Int → Prop) → EW → Prop} (h : Wa K E e t ρ B fun ds B1 => pi ds B1 (fun fs B2 => k (.ins C ns fs) B2) noE) : We K E e (tMake C (spI K C ns pi) [] E' t) ρ B k := fun σ H G Q s en x q =>
  h σ H G _ s en x fun ds vs B1 G1 H1 h1 e1 r1 => by
    show ∀ p dx, H1 p = none → H1 dx = none → dx ≠ p → _
    intro p dx np nd ne
    rw [List.append_nil]
    have gp : G1 p = none := by
      cases z : G1 p with
      | none => rfl
      | some u => rw [e1.sub _ _ z] at np; cases np
    have gd : G1 dx = none := by
      cases z : G1 dx with
      | none => rfl
      | some u => rw [e1.sub _ _ z] at nd; cases nd
    refine ⟨p, dx, vs, G1, ds, B1, _, noE, rfl, upd_same, gp, gd, ne, by rw [upd_ne ne, upd_same], fun a o z => ?_, r1, h1, fun fs us B2 G2 H2 hk le sub fr g2 h2 hl hr => ⟨rfl, ?_⟩, XOk.no⟩
    · have := e1.sub _ _ z
      rw [upd_ne (ne_of_none this np), upd_ne (ne_of_none this nd)]
      exact this
    · have e2 : Ext G H B (upd G2 p (.ins C dx (ns.zip us))) H2 B2 := by
        refine ⟨(e1.le.trans le).trans (Le.of_sub (fun a o z => by rw [upd_ne (ne_of_none z g2)]; exact z) (Int.le_refl _)), fun a o z => ?_, fun a o z n t => ?_⟩
        · by_cases hq : a = p
          · subst hq; rw [upd_same] at z; cases z; exact h2
          · rw [upd_ne hq] at z; exact sub _ _ z
        · obtain ⟨z1, z2⟩ := e1.fr a o z n t
          have hq : a ≠ p := ne_of_none z1 np
          obtain ⟨z3, z4⟩ := fr a o (by rw [upd_ne hq, upd_ne (ne_of_none z1 nd)]; exact z1) z2 hq t
          exact ⟨z3, by rw [upd_ne hq]; exact z4⟩
      exact q _ _ _ _ _ hk e2 ⟨p, dx, us, rfl, upd_same, hl, hr.mono (Le.of_sub (fun a o z => by rw [upd_ne (ne_of_none z g2)]; exact z) (Int.le_refl _))⟩
/-! ### data compared -/
mutual
def py : D → PyData
  | .non => .none
  | .bl b => .bool b
  | .int i => .int i
  | .str x => .str x
  | .tup ds => .tuple (pyL ds)
  | .lst ds => .list (pyL ds)
  | .ins _ _ _ => .none
  | .pen _ _ => .none
  | .scr _ => .none
  | .val _ => .none
  | .lam _ _ => .none
  | .at_ _ d => py d
  | .tb d => py d
  | .edk => .none
  | .dk _ _ => .none
  | .kt _ => .none
  | .dt _ _ _ => .none
def pyL : List D → List PyData
  | [] => []
  | d :: ds => py d :: pyL ds
end
mutual
def pyOk : D → Bool
  | .tup ds => pyOkL ds
  | .lst ds => pyOkL ds
  | .ins _ _ _ => false
  | .pen _ _ => false
  | .scr _ => false
  | .val _ => false
  | .lam _ _ => false
  | .at_ _ d => pyOk d
  | .tb d => pyOk d
  | .edk => false
  | .dk _ _ => false
  | .kt _ => false
  | .dt _ _ _ => false
  | _ => true
def pyOkL : List D → Bool
  | [] => true
  | d :: ds => pyOk d && pyOkL ds
end
mutual
theorem Rep.dp {G H : Hp} {B : Int} (s : Sub G H) : ∀ {d : D} {v : V}, Rep K G B d v → pyOk d = true → Dp K H v (py d)
  | .non, _, h, _ => by rw [show _ = _ from h]; exact .non
  | .bl _, _, h, _ => by rw [show _ = _ from h]; exact .bl _
  | .int _, _, h, _ => by rw [show _ = _ from h]; exact .int _
  | .str _, _, h, _ => by rw [show _ = _ from h]; exact .str _
  | .tup _, _, ⟨a, vs, e, h, hr⟩, o => by rw [e]; exact .tup ((Le.of_sub (B := B) (B' := B) s (Int.le_refl _)).seqT h) (RepL.dp s hr o)
  | .lst _, _, ⟨a, vs, e, h, hr⟩, o => by rw [e]; exact .lst (SqL.of (s _ _ h)) (RepL.dp s hr o)
  | .ins _ _ _, _, _, o => nomatch o
  | .pen _ _, _, _, o => nomatch o
  | .scr _, _, _, o => nomatch o
  | .val _, _, _, o => nomatch o
  | .lam _ _, _, _, o => nomatch o
  | .at_ _ d, _, ⟨_, h⟩, o => Rep.dp s (d := d) h o
  | .tb d, _, ⟨_, h⟩, o => Rep.dp s (d := d) h o
  | .edk, _, _, o => nomatch o
  | .dk _ _, _, _, o => nomatch o
  | .kt _, _, _, o => nomatch o
  | .dt _ _ _, _, _, o => nomatch o
theorem RepL.dp {G H : Hp} {B : Int} (s : Sub G H) : ∀ {ds : List D} {vs : List V}, RepL K G B ds vs → pyOkL ds = true → DpAll K H vs (pyL ds)
  | [], _, h, _ => by rw [show _ = _ from h]; exact .nil
  | d :: ds, _, ⟨v, r, e, h, hr⟩, o => by
    rw [e]
    have o' : (pyOk d && pyOkL ds) = true := o
    rw [Bool.and_eq_true] at o'
    exact .cons (Rep.dp s h o'.1) (RepL.dp s hr o'.2)
end
theorem ro_eqD {a b : D} (oa : pyOk a = true) (ob : pyOk b = true) (sa : SeqAt.shaped (py a) = true) (sb : SeqAt.shaped (py b) = true) (h : k (.bl (PyData.eqv (py a) (py b))) B) : Ro K E e (rEqD K) a b B k := fun x y H G Q s r1 r2 _ q =>
  ⟨_, _, Rep.dp s r1 oa, Rep.dp s r2 ob, sa, sb, q _ _ _ _ _ h (Ext.refl s) rfl⟩
theorem ro_neD {a b : D} (oa : pyOk a = true) (ob : pyOk b = true) (sa : SeqAt.shaped (py a) = true) (sb : SeqAt.shaped (py b) = true) (h : k (.bl (!PyData.eqv (py a) (py b))) B) : Ro K E e (rNeD K) a b B k := fun x y H G Q s r1 r2 _ q =>
  ⟨_, _, Rep.dp s r1 oa, Rep.dp s r2 ob, sa, sb, q _ _ _ _ _ h (Ext.refl s) rfl⟩
theorem ro_eqI {i j : Int} (h : k (.bl (decide (i = j))) B) : Ro K E e rEq (.int i) (.int j) B k := fun x y H G Q s r1 r2 _ q => by
  rw [show x = _ from r1, show y = _ from r2]
  have e1 : decide (V.int i = V.int j) = decide (i = j) := by
    by_cases z : i = j
    · subst z; simp
    · rw [decide_eq_false z, decide_eq_false fun w => z (V.int.inj w)]
  refine ⟨rfl, ?_⟩
  rw [e1]
  exact q _ _ _ _ _ h (Ext.refl s) rfl
theorem ro_neI {i j : Int} (h : k (.bl (!decide (i = j))) B) : Ro K E e rNe (.int i) (.int j) B k := fun x y H G Q s r1 r2 _ q => by
  rw [show x = _ from r1, show y = _ from r2]
  have e1 : decide (V.int i = V.int j) = decide (i = j) := by
    by_cases z : i = j
    · subst z; simp
    · rw [decide_eq_false z, decide_eq_false fun w => z (V.int.inj w)]
  refine ⟨rfl, ?_⟩
  rw [e1]
  exact q _ _ _ _ _ h (Ext.refl s) rfl
theorem ro_eqS {i j : Str} (h : k (.bl (decide (i = j))) B) : Ro K E e rEq (.str i) (.str j) B k := fun x y H G Q s r1 r2 _ q => by
  rw [show x = _ from r1, show y = _ from r2]
  have e1 : decide (V.str i = V.str j) = decide (i = j) := by
    by_cases z : i = j
    · subst z; simp
    · rw [decide_eq_false z, decide_eq_false fun w => z (V.str.inj w)]
  refine ⟨rfl, ?_⟩
  rw [e1]
  exact q _ _ _ _ _ h (Ext.refl s) rfl
/-! ### subscripts -/
theorem RepL.ixN {G : Hp} {ds : List D} {vs : List V} {i : Int} {d : D} (r : RepL K G B ds vs) (h : atI ds i = some d) : ∃ v, atI vs i = some v ∧ Rep K G B d v := by
  unfold atI at h ⊢
  rw [← r.length]
  cases z : L2.ixN ds.length i with
  | none => rw [z] at h; cases h
  | some j =>
    rw [z] at h
    exact r.get h
theorem ro_ixT {ds : List D} {i : Int} {d : D} (h : atI ds i = some d) (hk : k d B) : Ro K E e (rIxT K) (.tup ds) (.int i) B k := fun x y H G Q s r1 r2 _ q => by
  obtain ⟨a, vs, rfl, ha, hr⟩ := r1
  obtain ⟨v, h1, h2⟩ := hr.ixN h
  exact ⟨a, vs, i, v, rfl, r2, (Le.of_sub (B := B) (B' := B) s (Int.le_refl _)).seqT ha, h1, q _ _ _ _ _ hk (Ext.refl s) h2⟩
theorem ro_ixL {ds : List D} {i : Int} {d : D} (h : atI ds i = some d) (hk : k d B) : Ro K E e (rIxL K) (.lst ds) (.int i) B k := fun x y H G Q s r1 r2 _ q => by
  obtain ⟨a, vs, rfl, ha, hr⟩ := r1
  obtain ⟨v, h1, h2⟩ := hr.ixN h
  exact ⟨a, vs, i, v, rfl, r2, SqL.of (s _ _ ha), h1, q _ _ _ _ _ hk (Ext.refl s) h2⟩
theorem ro_ix_or {r : R2} {r' : R2} {a b : D} (h : Ro K E e r a b B k) : Ro K E e (fun x y H Q => r x y H Q ∨ r' x y H Q) a b B k := fun x y H G Q s r1 r2 xo q => .inl (h x y H G Q s r1 r2 xo q)
/-! ### built-ins -/
theorem we_cb {r : List V → Hp → VK → Prop} (h : Wa K E e t ρ B fun ds B1 => ∀ vs H G Q, Sub G H → RepL K G B1 ds vs → KOk K k Q G H B1 → r vs H Q) : We K E e (tCB r t) ρ B k := fun σ H G Q s en x q =>
  h σ H G _ s en x fun ds vs B1 G1 H1 h1 e1 r1 => h1 vs H1 G1 Q e1.sub r1 (q.ext e1)
theorem cb_fun1 {f : Int → Int} {r : List V → Hp → VK → Prop} (hr : ∀ i H Q, Q (.int (f i)) H → r [.int i] H Q) {ds : List D} (h : ∃ i, ds = [.int i] ∧ k (.int (f i)) B) : ∀ vs H G Q, Sub G H → RepL K G B ds vs → KOk K k Q G H B → r vs H Q := fun vs H G Q s r1 q => by
  obtain ⟨i, rfl, hk⟩ := h
  obtain ⟨v, _, rfl, rv, rfl⟩ := r1
  rw [show v = _ from rv]
  exact hr i H Q (q _ _ _ _ _ hk (Ext.refl s) rfl)
theorem cb_fun2 {f : Int → Int → Int} {r : List V → Hp → VK → Prop} (hr : ∀ i j H Q, Q (.int (f i j)) H → r [.int i, .int j] H Q) {ds : List D} (h : ∃ i j, ds = [.int i, .int j] ∧ k (.int (f i j)) B) : ∀ vs H G Q, Sub G H → RepL K G B ds vs → KOk K k Q G H B → r vs H Q := fun vs H G Q s r1 q => by
  obtain ⟨i, j, rfl, hk⟩ := h
  obtain ⟨v, _, rfl, rv, u, _, rfl, ru, rfl⟩ := r1
  rw [show v = _ from rv, show u = _ from ru]
  exact hr i j H Q (q _ _ _ _ _ hk (Ext.refl s) rfl)
theorem we_intof (h : Wa K E e t ρ B fun ds B1 => ∃ i, ds = [.int i] ∧ k (.int i) B1) : We K E e (tCB (fun xs H Q => (∃ i, xs = [.int i] ∧ Q (.int i) H) ∨ ∃ k, xs = [.bl k] ∧ Q (.int (if k then 1 else 0)) H) t) ρ B k :=
  we_cb fun σ H G Q s en x q => h σ H G Q s en x fun ds vs B1 G1 H1 h1 e1 r1 => q ds vs B1 G1 H1 (cb_fun1 (f := fun i => i) (fun i H Q q => .inl ⟨i, rfl, q⟩) h1) e1 r1
theorem we_abs (h : Wa K E e t ρ B fun ds B1 => ∃ i, ds = [.int i] ∧ k (.int (if i < 0 then -i else i)) B1) : We K E e (tCB (fun xs H Q => ∃ i, xs = [.int i] ∧ Q (.int (if i < 0 then -i else i)) H) t) ρ B k :=
  we_cb fun σ H G Q s en x q => h σ H G Q s en x fun ds vs B1 G1 H1 h1 e1 r1 => q ds vs B1 G1 H1 (cb_fun1 (f := fun i => if i < 0 then -i else i) (fun i H Q q => ⟨i, rfl, q⟩) h1) e1 r1
theorem we_gcd (h : Wa K E e t ρ B fun ds B1 => ∃ i j, ds = [.int i, .int j] ∧ k (.int ((Nat.gcd i.natAbs j.natAbs : Nat) : Int)) B1) : We K E e (tCB rGcd t) ρ B k :=
  we_cb fun σ H G Q s en x q => h σ H G Q s en x fun ds vs B1 G1 H1 h1 e1 r1 => q ds vs B1 G1 H1 (cb_fun2 (f := fun i j => ((Nat.gcd i.natAbs j.natAbs : Nat) : Int)) (fun i j H Q q => ⟨i, j, rfl, q⟩) h1) e1 r1
theorem we_lenL (h : Wa K E e t ρ B fun ds B1 => ∃ xs, ds = [.lst xs] ∧ k (.int xs.length) B1) : We K E e (tCB (fun xs H Q => ∃ p ys, xs = [.ref p] ∧ (SqL K H p ys ∨ SqT K H p ys) ∧ Q (.int ys.length) H) t) ρ B k :=
  we_cb fun σ H G Q s en x q => h σ H G Q s en x fun ds vs B1 G1 H1 ⟨xs, ed, h1⟩ e1 r1 => q ds vs B1 G1 H1 (fun ws H2 G2 Q2 s2 r2 q2 => by
    subst ed
    obtain ⟨v, _, rfl, ⟨a, us, rfl, ha, hr⟩, rfl⟩ := r2
    exact ⟨a, us, rfl, .inl (SqL.of (s2 _ _ ha)), by rw [← hr.length]; exact q2 _ _ _ _ _ h1 (Ext.refl s2) rfl⟩) e1 r1
theorem we_lenT (h : Wa K E e t ρ B fun ds B1 => ∃ xs, ds = [.tup xs] ∧ k (.int xs.length) B1) : We K E e (tCB (fun xs H Q => ∃ p ys, xs = [.ref p] ∧ (SqL K H p ys ∨ SqT K H p ys) ∧ Q (.int ys.length) H) t) ρ B k :=
  we_cb fun σ H G Q s en x q => h σ H G Q s en x fun ds vs B1 G1 H1 ⟨xs, ed, h1⟩ e1 r1 => q ds vs B1 G1 H1 (fun ws H2 G2 Q2 s2 r2 q2 => by
    subst ed
    obtain ⟨v, _, rfl, ⟨a, us, rfl, ha, hr⟩, rfl⟩ := r2
    exact ⟨a, us, rfl, .inr ((Le.of_sub (B := B1) (B' := B1) s2 (Int.le_refl _)).seqT ha), by rw [← hr.length]; exact q2 _ _ _ _ _ h1 (Ext.refl s2) rfl⟩) e1 r1
/-! ### loops -/
variable {wi : TI} {g : TG} {tbody : TS} {tl : TE}
theorem ws_for_list (h : We K E e tl ρ B fun d B1 => ∃ ds, d = .lst ds ∧ ∃ I : Nat → KE', I 0 ρ B1 ∧ (∀ i x ρ' B', ds[i]? = some x → I i ρ' B' → Wg K g x ρ' B' fun ρ2 B2 => Ws K E e tbody ρ2 B2 { nx := I (i + 1), rt := κ.rt, bk := κ.nx, ct := I (i + 1) }) ∧ ∀ ρ' B', I ds.length ρ' B' → κ.nx ρ' B') :
    Ws K E e (tFor (iList K tl) g tbody) ρ B κ := fun σ H G Dn s en x q =>
  h σ H G _ s en x fun d v B1 G1 H1 ⟨ds, ed, I, i0, hs, hd⟩ e1 r1 => by
    subst ed
    obtain ⟨a, vs, rfl, ha, hr⟩ := r1
    refine ⟨a, rfl, ⟨vs, SqL.of (e1.sub _ _ ha)⟩, ?_⟩
    refine for_list (xs := vs) (fun i σ' H' => ∃ ρ' B' G', I i ρ' B' ∧ Ext G1 H1 B1 G' H' B' ∧ EnvR K G' B' ρ' σ') ⟨ρ, B1, G1, i0, Ext.refl e1.sub, en.mono e1.le⟩ (fun i σ' H' _ ⟨_, _, G', _, e2, _⟩ => SqL.of (e2.sub _ _ (e2.le.keep _ _ ha nopen_lst))) ?_ ?_
    · rintro i y σ' H' hi ⟨ρ', B', G', hI, e2, en2⟩
      obtain ⟨dx, hdx, rx⟩ := hr.get' hi
      refine hs i dx ρ' B' hdx hI y σ' H' G' _ e2.sub en2 (rx.mono e2.le) fun ρ2 σ2 B2 G2 H2 h2 e3 en3 => ?_
      have eA := e1.trans (e2.trans e3)
      exact h2 σ2 H2 G2 _ e3.sub en3 (x.ext eA) ⟨fun ρ3 σ3 B3 G3 H3 h3 e4 en4 => ⟨ρ3, B3, G3, h3, (e2.trans e3).trans e4, en4⟩, q.rt.ext eA, q.nx.ext eA, fun ρ3 σ3 B3 G3 H3 h3 e4 en4 => ⟨ρ3, B3, G3, h3, (e2.trans e3).trans e4, en4⟩⟩
    · rintro σ' H' ⟨ρ', B', G', hI, e2, en2⟩
      rw [← hr.length] at hI
      exact q.nx _ _ _ _ _ (hd _ _ hI) (e1.trans e2) en2
theorem ws_for_tup (h : We K E e tl ρ B fun d B1 => ∃ ds, d = .tup ds ∧ ∃ I : Nat → KE', I 0 ρ B1 ∧ (∀ i x ρ' B', ds[i]? = some x → I i ρ' B' → Wg K g x ρ' B' fun ρ2 B2 => Ws K E e tbody ρ2 B2 { nx := I (i + 1), rt := κ.rt, bk := κ.nx, ct := I (i + 1) }) ∧ ∀ ρ' B', I ds.length ρ' B' → κ.nx ρ' B') :
    Ws K E e (tFor (iTup K tl) g tbody) ρ B κ := fun σ H G Dn s en x q =>
  h σ H G _ s en x fun d v B1 G1 H1 ⟨ds, ed, I, i0, hs, hd⟩ e1 r1 => by
    subst ed
    obtain ⟨a, vs, rfl, ha, hr⟩ := r1
    refine ⟨a, rfl, ⟨vs, (Le.of_sub (B := B) (B' := B) e1.sub (Int.le_refl _)).seqT ha⟩, ?_⟩
    refine for_tup (xs := vs) (fun i σ' H' => ∃ ρ' B' G', I i ρ' B' ∧ Ext G1 H1 B1 G' H' B' ∧ EnvR K G' B' ρ' σ') ⟨ρ, B1, G1, i0, Ext.refl e1.sub, en.mono e1.le⟩ (fun i σ' H' _ ⟨_, _, G', _, e2, _⟩ => (Le.of_sub (B := B) (B' := B) e2.sub (Int.le_refl _)).seqT (e2.le.seqT ha)) ?_ ?_
    · rintro i y σ' H' hi ⟨ρ', B', G', hI, e2, en2⟩
      obtain ⟨dx, hdx, rx⟩ := hr.get' hi
      refine hs i dx ρ' B' hdx hI y σ' H' G' _ e2.sub en2 (rx.mono e2.le) fun ρ2 σ2 B2 G2 H2 h2 e3 en3 => ?_
      have eA := e1.trans (e2.trans e3)
      exact h2 σ2 H2 G2 _ e3.sub en3 (x.ext eA) ⟨fun ρ3 σ3 B3 G3 H3 h3 e4 en4 => ⟨ρ3, B3, G3, h3, (e2.trans e3).trans e4, en4⟩, q.rt.ext eA, q.nx.ext eA, fun ρ3 σ3 B3 G3 H3 h3 e4 en4 => ⟨ρ3, B3, G3, h3, (e2.trans e3).trans e4, en4⟩⟩
    · rintro σ' H' ⟨ρ', B', G', hI, e2, en2⟩
      rw [← hr.length] at hI
      exact q.nx _ _ _ _ _ (hd _ _ hI) (e1.trans e2) en2
theorem for_range_D {n : Nat} {G H : Hp} {σ : L2.St} {Dn : Ends} (s : Sub G H) (en : EnvR K G B ρ σ) (x : XOk K E e G H B) (q : EndsOk K κ Dn G H B) (I : Nat → KE') (lo : Int) (i0 : I 0 ρ B)
    (hs : ∀ (i : Nat) ρ' B', i < n → I i ρ' B' → Wg K g (.int (lo + i)) ρ' B' fun ρ2 B2 => Ws K E e tbody ρ2 B2 { nx := I (i + 1), rt := κ.rt, bk := κ.nx, ct := I (i + 1) }) (hd : ∀ ρ' B', I n ρ' B' → κ.nx ρ' B') :
    ∃ W : Nat → Nat → L2.St → Hp → Prop, (∃ m, W 0 m σ H) ∧ ∀ i m σ H, W i m σ H →
      ((Itr lo n).stop i H ∧ Dn.nx σ H) ∨ ((Itr lo n).go i H ∧ ∃ N : L2.St → Hp → Prop, (∀ σ' H', N σ' H' → ∃ m', m' < m ∧ W (i + 1) m' σ' H') ∧ ∀ x H', (Itr lo n).yld i H x H' → g x σ H' fun σ2 H2 => tbody { Dn with nx := N, ct := N, bk := Dn.nx } σ2 H2) := by
  refine for_range (fun i σ' H' => ∃ ρ' B' G', I i ρ' B' ∧ Ext G H B G' H' B' ∧ EnvR K G' B' ρ' σ') ⟨ρ, B, G, i0, Ext.refl s, en⟩ ?_ ?_
  · rintro i σ' H' hi ⟨ρ', B', G', hI, e2, en2⟩
    refine hs i ρ' B' hi hI _ σ' H' G' _ e2.sub en2 rfl fun ρ2 σ2 B2 G2 H2 h2 e3 en3 => ?_
    have eA := e2.trans e3
    exact h2 σ2 H2 G2 _ e3.sub en3 (x.ext eA) ⟨fun ρ3 σ3 B3 G3 H3 h3 e4 en4 => ⟨ρ3, B3, G3, h3, (e2.trans e3).trans e4, en4⟩, q.rt.ext eA, q.nx.ext eA, fun ρ3 σ3 B3 G3 H3 h3 e4 en4 => ⟨ρ3, B3, G3, h3, (e2.trans e3).trans e4, en4⟩⟩
  · rintro σ' H' ⟨ρ', B', G', hI, e2, en2⟩
    exact q.nx _ _ _ _ _ (hd _ _ hI) e2 en2
theorem ws_for_range1 (h : Wa K E e t ρ B fun ds B1 => ∃ j : Int, ds = [.int j] ∧ -(2 ^ 62) ≤ j ∧ j < 2 ^ 62 ∧ ∃ I : Nat → KE', I 0 ρ B1 ∧ (∀ (i : Nat) ρ' B', i < j.toNat → I i ρ' B' → Wg K g (.int (0 + i)) ρ' B' fun ρ2 B2 => Ws K E e tbody ρ2 B2 { nx := I (i + 1), rt := κ.rt, bk := κ.nx, ct := I (i + 1) }) ∧ ∀ ρ' B', I j.toNat ρ' B' → κ.nx ρ' B') :
    Ws K E e (tFor (iRng1 t) g tbody) ρ B κ := fun σ H G Dn s en x q =>
  h σ H G _ s en x fun ds vs B1 G1 H1 ⟨j, ed, j0, j1, I, i0, hs, hd⟩ e1 r1 => by
    subst ed
    obtain ⟨v, _, rfl, rv, rfl⟩ := r1
    rw [show v = _ from rv]
    exact ⟨j, rfl, j0, j1, for_range_D e1.sub (en.mono e1.le) (x.ext e1) (q.ext e1) I 0 i0 hs hd⟩
/-! ### comprehensions -/
variable {tt : TT} {te : TE} {E1 : XK}
theorem wt_yes {kb : Bool → Int → Prop} (h : kb true B) : Wt K E e tYes ρ B kb := fun σ H G Q s en x q => q _ _ _ _ h (Ext.refl s)
/-- the state of a comprehension whose list stands at L -/
def LcOk (K : PySem.W.Frag) (I : List D → Int → Prop) (L : Addr) (G1 H1 : Hp) (B1 : Int) (H' : Hp) : Prop := ∃ out B' G' acc, I out B' ∧ Ext G1 H1 B1 G' H' B' ∧ G' L = none ∧ H' L = some (.lst acc) ∧ RepL K G' B' out acc
theorem lc_step {I : Nat → List D → Int → Prop} {L : Addr} {G1 H1 : Hp} {B1 : Int} {σ : L2.St} {sl i : Nat} {d : D} {v : V} {H' : Hp} (nL : H1 L = none) (sub1 : Sub G1 H1) (en : EnvR K G1 B1 ρ σ) (h : LcOk K (fun out B => out.length ≤ i ∧ I i out B) L G1 H1 B1 H') (hi : i < sizeLine) (rv : Rep K G1 B1 d v)
    (hs : ∀ out B', I i out B' → Wt K E1 noE tt ((ρ.set sl none).set sl (some d)) B' fun b B3 => (b = true → We K E1 noE te ((ρ.set sl none).set sl (some d)) B3 fun y B4 => I (i + 1) (out ++ [y]) B4) ∧ (b = false → I (i + 1) out B3)) :
    gName sl v (wipe σ [sl]) H' fun σ2 H2 => wipe σ2 [sl] = wipe σ [sl] ∧ tt σ2 H2 fun b H3 => if b = true then te σ2 H3 fun y H4 => ∃ acc, H4 L = some (.lst acc) ∧ acc.length < sizeLine ∧ LcOk K (fun out B => out.length ≤ i + 1 ∧ I (i + 1) out B) L G1 H1 B1 (upd H4 L (.lst (acc ++ [y]))) else LcOk K (fun out B => out.length ≤ i + 1 ∧ I (i + 1) out B) L G1 H1 B1 H3 := by
  obtain ⟨out, B', G', acc, ⟨hl, hI⟩, e2, gL, hL, hr⟩ := h
  refine ⟨?_, ?_⟩
  · show ((σ.set sl none).set sl (some v)).set sl none = σ.set sl none
    rw [List.set_set, List.set_set]
  · have en2 : EnvR K G' B' ((ρ.set sl none).set sl (some d)) ((σ.set sl none).set sl (some v)) := EnvR.set (rv.mono e2.le) sl (EnvR.wipe1 sl (en.mono e2.le))
    refine hs out B' hI _ H' G' _ e2.sub en2 XOk.no fun b B3 G3 H3 h3 e3 => ?_
    cases b with
    | true =>
      rw [if_pos rfl]
      refine h3.1 rfl _ H3 G3 _ e3.sub (en2.mono e3.le) XOk.no fun y w B4 G4 H4 h4 e4 r4 => ?_
      obtain ⟨z1, z2⟩ := (e3.trans e4).fr L _ hL gL ⟨(fun _ z => nomatch z), fun _ z => nomatch z⟩
      refine ⟨acc, z1, by rw [← hr.length]; omega, out ++ [y], B4, G4, acc ++ [w], ⟨by rw [List.length_append, List.length_singleton]; omega, h4⟩, ?_, z2, upd_same, (hr.mono (e3.trans e4).le).append ⟨w, [], rfl, r4, rfl⟩⟩
      have eA := e2.trans (e3.trans e4)
      refine ⟨eA.le, fun a o z => ?_, fun a o z n t => ?_⟩
      · have : a ≠ L := fun q => by rw [q, z2] at z; cases z
        rw [upd_ne this]; exact eA.sub _ _ z
      · have : a ≠ L := ne_of_none z nL
        rw [upd_ne this]
        exact eA.fr _ _ z n t
    | false =>
      rw [if_neg Bool.false_ne_true]
      obtain ⟨z1, z2⟩ := e3.fr L _ hL gL ⟨(fun _ z => nomatch z), fun _ z => nomatch z⟩
      exact ⟨out, B3, G3, acc, ⟨Nat.le_succ_of_le hl, h3.2 rfl⟩, e2.trans e3, z2, z1, hr.mono e3.le⟩
theorem lc_end {I : List D → Int → Prop} {L : Addr} {G H G1 H1 : Hp} {B1 : Int} {Q : VK} {H' : Hp} (e1 : Ext G H B G1 H1 B1) (nL : H1 L = none) (h : LcOk K I L G1 H1 B1 H') (hd : ∀ out B', I out B' → k (.lst out) B') (q : KOk K k Q G H B) : Q (.ref L) H' := by
  obtain ⟨out, B', G', acc, hI, e2, gL, hL, hr⟩ := h
  have le : Le G' B' (upd G' L (.lst acc)) B' := Le.of_sub (fun a o z => by rw [upd_ne (ne_of_none z gL)]; exact z) (Int.le_refl _)
  refine q (.lst out) _ B' (upd G' L (.lst acc)) H' (hd _ _ hI) (e1.trans ⟨e2.le.trans le, fun a o z => ?_, fun a o z n t => ?_⟩) ⟨L, acc, rfl, upd_same, hr.mono le⟩
  · by_cases w : a = L
    · subst w; rw [upd_same] at z; cases z; exact hL
    · rw [upd_ne w] at z; exact e2.sub _ _ z
  · have w : a ≠ L := ne_of_none z nL
    rw [upd_ne w]
    exact e2.fr _ _ z n t
theorem lc_start {I : List D → Int → Prop} {L : Addr} {G1 H1 : Hp} {B1 : Int} (s : Sub G1 H1) (nL : H1 L = none) (h : I [] B1) : LcOk K I L G1 H1 B1 (upd H1 L (.lst [])) := by
  have g : G1 L = none := by
    cases z : G1 L with
    | none => rfl
    | some u => rw [s _ _ z] at nL; cases nL
  exact ⟨[], B1, G1, [], h, Ext.hid s nL, g, upd_same, rfl⟩
theorem LcOk.kept {I : List D → Int → Prop} {L : Addr} {G1 H1 : Hp} {B1 : Int} {H' : Hp} {a : Addr} {o : HO} (h : LcOk K I L G1 H1 B1 H') (ha : G1 a = some o) (n : ¬ IsPen o) : H' a = some o := by
  obtain ⟨out, B', G', acc, hI, e2, gL, hL, hr⟩ := h
  exact e2.sub _ _ (e2.le.keep _ _ ha n)
theorem we_lc_list {sl : Nat} (h : We K E e tl ρ B fun d B1 => ∃ ds, d = .lst ds ∧ ds.length < sizeLine ∧ ∃ I : Nat → List D → Int → Prop, I 0 [] B1 ∧
    (∀ i x out B', ds[i]? = some x → I i out B' → Wt K E1 noE tt ((ρ.set sl none).set sl (some x)) B' fun b B3 => (b = true → We K E1 noE te ((ρ.set sl none).set sl (some x)) B3 fun y B4 => I (i + 1) (out ++ [y]) B4) ∧ (b = false → I (i + 1) out B3)) ∧
    ∀ out B', out.length ≤ ds.length → I ds.length out B' → k (.lst out) B') : We K E e (tLc (iList K tl) (gName sl) tt te [sl]) ρ B k := fun σ H G Q s en x q =>
  h σ H G _ s en x fun d v B1 G1 H1 ⟨ds, ed, dl, I, i0, hs, hd⟩ e1 r1 => by
    subst ed
    obtain ⟨a, vs, rfl, ha, hr⟩ := r1
    refine ⟨a, rfl, ⟨vs, SqL.of (e1.sub _ _ ha)⟩, fun L nL => ?_⟩
    refine lc_list (xs := vs) (fun i H' => LcOk K (fun out B => out.length ≤ i ∧ I i out B) L G1 H1 B1 H') (lc_start e1.sub nL ⟨Nat.le_refl _, i0⟩) (fun i H' _ z => SqL.of (z.kept ha nopen_lst)) ?_ ?_
    · intro i y H' hi hz
      obtain ⟨dx, hdx, rx⟩ := hr.get' hi
      have hlt : i < ds.length := (List.getElem?_eq_some_iff.mp hdx).1
      exact lc_step nL e1.sub (en.mono e1.le) hz (by omega) rx (fun out B' hI => hs i dx out B' hdx hI)
    · intro H' hz
      refine lc_end e1 nL hz (fun out B' hI => ?_) q
      rw [← hr.length] at hI
      exact hd out B' hI.1 hI.2
theorem we_lc_tup {sl : Nat} (h : We K E e tl ρ B fun d B1 => ∃ ds, d = .tup ds ∧ ds.length < sizeLine ∧ ∃ I : Nat → List D → Int → Prop, I 0 [] B1 ∧
    (∀ i x out B', ds[i]? = some x → I i out B' → Wt K E1 noE tt ((ρ.set sl none).set sl (some x)) B' fun b B3 => (b = true → We K E1 noE te ((ρ.set sl none).set sl (some x)) B3 fun y B4 => I (i + 1) (out ++ [y]) B4) ∧ (b = false → I (i + 1) out B3)) ∧
    ∀ out B', out.length ≤ ds.length → I ds.length out B' → k (.lst out) B') : We K E e (tLc (iTup K tl) (gName sl) tt te [sl]) ρ B k := fun σ H G Q s en x q =>
  h σ H G _ s en x fun d v B1 G1 H1 ⟨ds, ed, dl, I, i0, hs, hd⟩ e1 r1 => by
    subst ed
    obtain ⟨a, vs, rfl, ha, hr⟩ := r1
    refine ⟨a, rfl, ⟨vs, (Le.of_sub (B := B) (B' := B) e1.sub (Int.le_refl _)).seqT ha⟩, fun L nL => ?_⟩
    refine lc_tup (xs := vs) (fun i H' => LcOk K (fun out B => out.length ≤ i ∧ I i out B) L G1 H1 B1 H') (lc_start e1.sub nL ⟨Nat.le_refl _, i0⟩) (fun i H' _ z => by
      obtain ⟨out, B', G', acc, hI, e2, _⟩ := z
      exact (Le.of_sub (B := B) (B' := B) e2.sub (Int.le_refl _)).seqT (e2.le.seqT ha)) ?_ ?_
    · intro i y H' hi hz
      obtain ⟨dx, hdx, rx⟩ := hr.get' hi
      have hlt : i < ds.length := (List.getElem?_eq_some_iff.mp hdx).1
      exact lc_step nL e1.sub (en.mono e1.le) hz (by omega) rx (fun out B' hI => hs i dx out B' hdx hI)
    · intro H' hz
      refine lc_end e1 nL hz (fun out B' hI => ?_) q
      rw [← hr.length] at hI
      exact hd out B' hI.1 hI.2
end
end AW

set_option linter.all false
set_option maxRecDepth 100000
set_option maxHeartbeats 4000000
namespace AW
open PySem PySem.Spec PyProof.Rows L2
variable [Tbs]
/-! more operators, by values -/
def CDivG (_ j : Int) : Prop := j ≠ 0 ∧ j.natAbs.log2 < 9000
section
variable {X : Cx}
/-- // by any number of up to 9000 bits -/
theorem op_fdivG : OpR X (binaryOp .FloorDiv) (rI CDivG fun i j => .int (i.fdiv j)) := opI fun _ _ _ _ _ _ _ hc q => floordiv_int hc.1 q (.inl (PyProof.noPylong_of_log2 hc.2))
end
section
variable {K : PySem.W.Frag} {E E' : XK} {e : EW} {ρ : List (Option D)} {B : Int} {k : KD} {κ : KS} {ta tb : TE} {t : TA} {pr : Pr}
theorem we_call0 (h : pr [] B k noE) : We K E e (tCall (spD K pr) [] E' tNil) ρ B k := we_call (wa_nil h)
theorem we_meth0 {C : Addr} {m : Str} (h : We K E e ta ρ B fun d B1 => ∃ ns fs, d = .ins C ns fs ∧ (∀ n ∈ ns, (m == n) = false) ∧ pr [d] B1 k noE) : We K E e (tMeth C m (spD K pr) [] E' ta tNil) ρ B k :=
  we_meth (h.imp fun d B1 ⟨ns, fs, ed, nm, h1⟩ => ⟨ns, fs, ed, nm, wa_nil h1⟩)
theorem we_max2 (h : Wa K E e t ρ B fun ds B1 => ∃ i j, ds = [.int i, .int j] ∧ k (.int (if j > i then j else i)) B1) : We K E e (tCB (fun xs H Q => ∃ i j, xs = [.int i, .int j] ∧ Q (.int (if j > i then j else i)) H) t) ρ B k :=
  we_cb fun σ H G Q s en x q => h σ H G Q s en x fun ds vs B1 G1 H1 h1 e1 r1 => q ds vs B1 G1 H1 (cb_fun2 (f := fun i j => if j > i then j else i) (fun i j H Q q => ⟨i, j, rfl, q⟩) h1) e1 r1
theorem we_min2 (h : Wa K E e t ρ B fun ds B1 => ∃ i j, ds = [.int i, .int j] ∧ k (.int (if j < i then j else i)) B1) : We K E e (tCB (fun xs H Q => ∃ i j, xs = [.int i, .int j] ∧ Q (.int (if j < i then j else i)) H) t) ρ B k :=
  we_cb fun σ H G Q s en x q => h σ H G Q s en x fun ds vs B1 G1 H1 h1 e1 r1 => q ds vs B1 G1 H1 (cb_fun2 (f := fun i j => if j < i then j else i) (fun i j H Q q => ⟨i, j, rfl, q⟩) h1) e1 r1
/-- a statement, what holds behind it, the rest -/
theorem ws_cut {ts us : TS} (J : KE') (h1 : Ws K E e ts ρ B { κ with nx := J }) (h2 : ∀ ρ' B', J ρ' B' → Ws K E e us ρ' B' κ) : Ws K E e (tSeq ts us) ρ B κ :=
  ws_seq fun σ H G Dn s en x q => h1 σ H G Dn s en x ⟨fun ρ' σ' B' G' H' z => q.nx ρ' σ' B' G' H' (h2 ρ' B' z), q.rt, q.bk, q.ct⟩
/-- list + list -/
theorem ro_catL {xs ys : List D} (hl : xs.length + ys.length ≤ sizeLine) (h : k (.lst (xs ++ ys)) B) : Ro K E e rCat (.lst xs) (.lst ys) B k := fun x y H G Q s r1 r2 _ q => by
  obtain ⟨a, vs, rfl, ha, hr⟩ := r1
  obtain ⟨b, ws, rfl, hb, hw⟩ := r2
  exact ⟨a, b, vs, ws, rfl, rfl, s _ _ ha, s _ _ hb, by rw [← hr.length, ← hw.length]; exact hl, fun p np =>
    q _ _ _ _ _ h (Ext.new s np) ⟨p, _, rfl, upd_same, (hr.append hw).mono (Ext.new (B := B) s np).le⟩⟩
end
mutual
/-- data without a dict is equal to itself -/
theorem eqv_self : ∀ d : D, PyData.eqv (py d) (py d) = true
  | .non => rfl
  | .bl b => by cases b <;> rfl
  | .int i => by simp [py, PyData.eqv]
  | .str x => by simp [py, PyData.eqv]
  | .tup ds => by show PyData.eqvAll (pyL ds) (pyL ds) = true; exact eqvAll_self ds
  | .lst ds => by show PyData.eqvAll (pyL ds) (pyL ds) = true; exact eqvAll_self ds
  | .ins _ _ _ => rfl
  | .pen _ _ => rfl
  | .scr _ => rfl
  | .val _ => rfl
  | .lam _ _ => rfl
  | .at_ _ d => eqv_self d
  | .tb d => eqv_self d
  | .edk => rfl
  | .dk _ _ => rfl
  | .kt _ => rfl
  | .dt _ _ _ => rfl
theorem eqvAll_self : ∀ ds : List D, PyData.eqvAll (pyL ds) (pyL ds) = true
  | [] => rfl
  | d :: ds => by
    show (PyData.eqv (py d) (py d) && PyData.eqvAll (pyL ds) (pyL ds)) = true
    rw [eqv_self d, eqvAll_self ds]
    rfl
end
abbrev t3 (x y a : Int) : D := .tup [.int x, .int y, .int a]
abbrev t2 (x y : Int) : D := .tup [.int x, .int y]
theorem eqv_t3 {x y a x' y' a' : Int} : PyData.eqv (py (t3 x y a)) (py (t3 x' y' a')) = decide (x = x' ∧ y = y' ∧ a = a') := by
  by_cases h : x = x' ∧ y = y' ∧ a = a'
  · obtain ⟨rfl, rfl, rfl⟩ := h
    rw [eqv_self]; simp
  · rw [decide_eq_false h, Bool.eq_false_iff]
    intro z
    simp [py, pyL, PyData.eqv, PyData.eqvAll] at z
    exact h ⟨z.1, z.2.1, z.2.2⟩
theorem shaped_of {d : D} (h1 : (py d).canLay0 = true) (h2 : decide ((py d).depth ≤ 64) = true) : SeqAt.shaped (py d) = true := by
  unfold SeqAt.shaped
  rw [h1, h2]; rfl
end AW

set_option linter.all false
set_option maxRecDepth 100000
set_option maxHeartbeats 4000000
namespace AW
open PySem PySem.Spec PyProof.Rows L2
variable [Tbs]
section
variable {K : PySem.W.Frag} {E E1 : XK} {e : EW} {ρ : List (Option D)} {B : Int} {k : KD} {tl te : TE} {sl : Nat}
theorem map_step {f : D → D} {ds : List D} {i : Nat} {x : D} (h : ds[i]? = some x) : (ds.map f).take i ++ [f x] = (ds.map f).take (i + 1) := by
  have hm : (ds.map f)[i]? = some (f x) := by rw [List.getElem?_map, h]; rfl
  rw [List.take_add_one, hm]
  rfl
/-- [f(x) for x in xs]: each element told, the pens left -/
theorem we_lc_mapT {f : D → D} (h : We K E e tl ρ B fun d B1 => ∃ ds, d = .tup ds ∧ ds.length < sizeLine ∧ (∀ x ∈ ds, ∀ k' : KD, k' (f x) B1 → We K E1 noE te ((ρ.set sl none).set sl (some x)) B1 k') ∧ k (.lst (ds.map f)) B1) :
    We K E e (tLc (iTup K tl) (gName sl) tYes te [sl]) ρ B k := we_lc_tup (E1 := E1) (h.imp fun d B1 ⟨ds, ed, hl, hs, hk⟩ => ⟨ds, ed, hl, fun i out B' => out = (ds.map f).take i ∧ B' = B1, ⟨rfl, rfl⟩, fun i x out B' hi ⟨eo, eB⟩ => wt_yes ⟨fun _ => by
      subst eB
      exact hs x (List.mem_of_getElem? hi) _ ⟨by rw [eo]; exact map_step hi, rfl⟩, fun h => nomatch h⟩, fun out B' _ ⟨eo, eB⟩ => by
      rw [eo, eB, List.take_of_length_le (by rw [List.length_map]; exact Nat.le_refl _)]
      exact hk⟩)
theorem we_lc_mapL {f : D → D} (h : We K E e tl ρ B fun d B1 => ∃ ds, d = .lst ds ∧ ds.length < sizeLine ∧ (∀ x ∈ ds, ∀ k' : KD, k' (f x) B1 → We K E1 noE te ((ρ.set sl none).set sl (some x)) B1 k') ∧ k (.lst (ds.map f)) B1) :
    We K E e (tLc (iList K tl) (gName sl) tYes te [sl]) ρ B k := we_lc_list (E1 := E1) (h.imp fun d B1 ⟨ds, ed, hl, hs, hk⟩ => ⟨ds, ed, hl, fun i out B' => out = (ds.map f).take i ∧ B' = B1, ⟨rfl, rfl⟩, fun i x out B' hi ⟨eo, eB⟩ => wt_yes ⟨fun _ => by
      subst eB
      exact hs x (List.mem_of_getElem? hi) _ ⟨by rw [eo]; exact map_step hi, rfl⟩, fun h => nomatch h⟩, fun out B' _ ⟨eo, eB⟩ => by
      rw [eo, eB, List.take_of_length_le (by rw [List.length_map]; exact Nat.le_refl _)]
      exact hk⟩)
end
/-- what the statement asks of the law -/
def spLaw (K : PySem.W.Frag) : Sp := fun vs H Q E => ∃ (a : Addr) (ns : List Int), vs = [.ref a] ∧ SqL K H a (ns.map V.int) ∧ ns.length ≤ 63 ∧ LamX.Tabs Tbs.T H ∧ ∀ H', Q (.bl true) H'
open Classical in
theorem spLaw_imp {K : PySem.W.Frag} {pr : Pr} (h : ∀ (ns : List Int) (k : KD), ns.length ≤ 63 → (∀ B', k (.bl true) B') → pr [.scr ns] 0 k noE) : ∀ vs H Q E, spLaw K vs H Q E → spD K pr vs H Q E := fun vs H Q E ⟨a, ns, ev, hS, hl, hT, kq⟩ => by
  subst ev
  let G : Hp := fun b => if b = a ∨ (∃ ps, H b = some (.tbl ps)) ∨ (∃ q, H b = some (LamX.CodeO b q)) then H b else none
  have gt : ∀ b, (b = a ∨ (∃ ps, H b = some (.tbl ps)) ∨ (∃ q, H b = some (LamX.CodeO b q))) → G b = H b := fun b h => if_pos h
  have ga : G a = H a := gt a (.inl rfl)
  refine ⟨G, [.scr ns], 0, fun d _ => d = .bl true, noE, fun b o z => ?_, ⟨_, [], rfl, ⟨fun p hp => ?_, a, rfl, ?_⟩, rfl⟩, h ns _ hl (fun _ => rfl), fun d v B' G' H' hd _ hr => ?_, XOk.no⟩
  · by_cases hb : b = a ∨ (∃ ps, H b = some (.tbl ps)) ∨ (∃ q, H b = some (LamX.CodeO b q))
    · rw [gt b hb] at z
      exact z
    · have z2 : G b = none := if_neg hb
      rw [z2] at z
      cases z
  · obtain ⟨ps, h1, h2, h3⟩ := hT p hp
    refine ⟨ps, by rw [gt _ (.inr (.inl ⟨ps, h1⟩))]; exact h1, h2, fun pos cv hc => ?_⟩
    obtain ⟨c, e1, e2⟩ := h3 pos cv hc
    exact ⟨c, e1, by rw [gt _ (.inr (.inr ⟨_, e2⟩))]; exact e2⟩
  · rcases hS with (hS | ⟨o, hS⟩) | hS
    · exact .inl (.inl (ga.trans hS))
    · exact .inl (.inr ⟨o, ga.trans hS⟩)
    · exact .inr hS
  · subst hd
    rw [show v = _ from hr]
    exact kq H'
end AW

set_option linter.all false
set_option maxRecDepth 100000
set_option maxHeartbeats 4000000
namespace AW
open PySem PySem.Spec PyProof.Rows L2 LamX
variable [Tbs]
/-! ### lambdas that are kept, over data -/
def tabD : D → Bool
  | .pen _ _ => true
  | .scr _ => true
  | .tb _ => true
  | _ => false
section
variable {K : PySem.W.Frag} {E E' : XK} {e : EW} {ρ : List (Option D)} {B : Int} {k : KD} {κ : KS}
theorem Rep.tabs {G : Hp} : ∀ {d : D} {v : V}, Rep K G B d v → tabD d = true → Tabs Tbs.T G
  | .non, _, _, h => nomatch h
  | .bl _, _, _, h => nomatch h
  | .int _, _, _, h => nomatch h
  | .str _, _, _, h => nomatch h
  | .tup _, _, _, h => nomatch h
  | .lst _, _, _, h => nomatch h
  | .ins _ _ _, _, _, h => nomatch h
  | .val _, _, _, h => nomatch h
  | .lam _ _, _, _, h => nomatch h
  | .at_ _ _, _, _, h => nomatch h
  | .tb _, _, h, _ => h.1
  | .edk, _, _, h => nomatch h
  | .dk _ _, _, _, h => nomatch h
  | .kt _, _, _, h => nomatch h
  | .dt _ _ _, _, _, h => nomatch h
  | .pen _ _, _, h, _ => h.1
  | .scr _, _, h, _ => h.1
theorem grown_ext {P : Addr} {q : Str} {d f : Addr} {G H H1 : Hp} {o : HO} (s : Sub G H) (tG : Tabs Tbs.T G) (hm : (P, q) ∈ Tbs.T) (hu : ∀ p ∈ Tbs.T, p.1 = P → p.2 = q) (gr : Grown P q d H H1) (nf : H1 f = none) :
    ∃ G', Ext G H B (upd G' f o) (upd H1 f o) B ∧ upd G' f o d = some (LamX.CodeO d q) := by
  obtain ⟨psG, gP, gt, ga⟩ := tG _ hm
  have hP := s _ _ gP
  have gnone : ∀ a, H a = none → G a = none := fun a e => by
    cases z : G a with
    | none => rfl
    | some o => rw [s _ _ z] at e; cases e
  rcases gr with ⟨ps, pos, e1, e2, e3⟩ | ⟨ps, pos, e1, e2, e3⟩
  · subst e3
    rw [hP] at e1
    cases e1
    obtain ⟨c, ec, gc⟩ := ga pos _ e2
    cases ec
    exact ⟨G, Ext.new (B := B) (o := o) s nf, by rw [upd_ne (ne_of_none gc (gnone _ nf))]; exact gc⟩
  · subst e3
    rw [hP] at e1
    cases e1
    have nd := gnone _ e2
    have hdf : d ≠ f := fun z => by subst z; rw [upd_same] at nf; cases nf
    have t2 := tabs_grow (pos := pos) tG hm hu gP nd
    have st : Ext G H B (upd (upd G P (.tbl (psG ++ #[rawInt pos.line, rawInt pos.col, .ref d]))) d (CodeO d q)) (upd (upd H P (.tbl (psG ++ #[rawInt pos.line, rawInt pos.col, .ref d]))) d (CodeO d q)) B := by
      have at_ : ∀ a o, G a = some o → (∀ ps, o ≠ .tbl ps) → upd (upd G P (.tbl (psG ++ #[rawInt pos.line, rawInt pos.col, .ref d]))) d (CodeO d q) a = some o := fun a o z n => by
        rw [upd_ne (ne_of_none z nd), upd_ne (fun w => by subst w; rw [gP] at z; exact n _ (Option.some.inj z).symm)]
        exact z
      refine ⟨⟨Int.le_refl _, fun a o z n => at_ a o z fun ps w => n (.inr ⟨ps, w⟩), fun a k l c z r w => ⟨z, r, at_ a _ w (fun _ w => nomatch w), fun x y => ⟨x, y⟩⟩, fun _ => t2⟩, fun a o z => ?_, fun a o z n nt => ?_⟩
      · by_cases h1 : a = d
        · subst h1; rw [upd_same] at z ⊢; exact z
        · rw [upd_ne h1] at z ⊢
          by_cases h2 : a = P
          · subst h2; rw [upd_same] at z ⊢; exact z
          · rw [upd_ne h2] at z ⊢; exact s _ _ z
      · have h1 : a ≠ d := ne_of_none z e2
        have h2 : a ≠ P := fun w => by subst w; rw [hP] at z; exact nt.1 _ (Option.some.inj z).symm
        rw [upd_ne h1, upd_ne h2, upd_ne h1, upd_ne h2]
        exact ⟨z, n⟩
    exact ⟨_, st.trans (Ext.new (B := B) (o := o) st.sub nf), by rw [upd_ne hdf, upd_same]⟩
theorem we_lamval {i : Nat} {d0 : D} {P : Addr} {q : Str} {mk : Addr → Addr → HO} (hi : ρ[i]? = some (some d0)) (ht : tabD d0 = true) (hm : (P, q) ∈ Tbs.T) (hu : ∀ p ∈ Tbs.T, p.1 = P → p.2 = q) (nm : ∀ f d, ¬ IsPen (mk f d))
    (hk : k (.lam q mk) B) : We K E e (tLamV Tbs.T P q mk) ρ B k := fun σ H G Q s en x kq => by
  obtain ⟨v0, _, r0⟩ := en.get hi
  have tG : Tabs Tbs.T G := r0.tabs ht
  refine ⟨tG.ext s, fun f d H1 gr nf => ?_⟩
  obtain ⟨G', ex, kd⟩ := grown_ext (B := B) (o := mk f d) s tG hm hu gr nf
  exact kq _ _ _ _ _ hk ex ⟨f, d, rfl, upd_same, kd, nm f d⟩
/-- what is made of a kept lambda's call: tl, its reading over data; eR and kR, what comes of it -/
structure TTok (K : PySem.W.Frag) (TT : (XK → Hp → VK → Prop) → Hp → VK → Prop) (eR : KD → EW) (kR : KD → KD) : Prop where
  go : ∀ (tl : XK → Hp → VK → Prop) (k : KD) (G H : Hp) (B : Int) (Q : VK), Sub G H → KOk K k Q G H B → (∀ Ech Q', XOk K Ech (eR k) G H B → KOk K (kR k) Q' G H B → tl Ech H Q') → TT tl H Q
theorem we_callK {j : Nat} {q : Str} {mk : Addr → Addr → HO} {TT : (XK → Hp → VK → Prop) → Hp → VK → Prop} {t : XK → TE} {eR : KD → EW} {kR : KD → KD} (tt : TTok K TT eR kR) (hj : ρ[j]? = some (some (.lam q mk)))
    (h : ∀ Ech, We K Ech (eR k) (t Ech) ρ B (kR k)) : We K E e (tCallK j q mk TT t) ρ B k := fun σ H G Q s en x kq => by
  obtain ⟨v, h1, f, d, ev, g1, g2, _⟩ := en.get hj
  subst ev
  exact ⟨f, d, h1, s _ _ g1, s _ _ g2, tt.go _ k G H B Q s kq fun Ech Q' xo ko => h Ech σ H G Q' s en xo ko⟩
theorem we_callB {j : Nat} {vs : List Nat} {q : Str} {mk : Addr → Addr → HO} {TT : (XK → Hp → VK → Prop) → Hp → VK → Prop} {t : XK → TE} {eR : KD → EW} {kR : KD → KD} (tt : TTok K TT eR kR) (hj : ρ[j]? = some (some (.lam q mk)))
    (h : ∀ Ech, We K Ech (eR k) (t Ech) (wipeD ρ vs) B (kR k)) : We K E e (tCallB j vs q mk TT t) ρ B k := fun σ H G Q s en x kq => by
  obtain ⟨v, h1, f, d, ev, g1, g2, _⟩ := en.get hj
  subst ev
  exact ⟨f, d, h1, s _ _ g1, s _ _ g2, tt.go _ k G H B Q s kq fun Ech Q' xo ko => h Ech _ H G Q' s (en.wipe vs) xo ko⟩
/-- a lambda made and handed on at once -/
theorem we_lamarg {i : Nat} {d0 : D} {P : Addr} {q : Str} {mk : Addr → Addr → HO} {TT : (XK → Hp → VK → Prop) → Hp → VK → Prop} {t : XK → TE} {eR : KD → EW} {kR : KD → KD} (tt : TTok K TT eR kR) (hi : ρ[i]? = some (some d0)) (ht : tabD d0 = true) (hm : (P, q) ∈ Tbs.T) (hu : ∀ p ∈ Tbs.T, p.1 = P → p.2 = q)
    (h : ∀ Ech, We K Ech (eR k) (t Ech) ρ B (kR k)) : We K E e (tLamA Tbs.T P q mk TT t) ρ B k := fun σ H G Q s en x kq => by
  obtain ⟨v0, _, r0⟩ := en.get hi
  have tG : Tabs Tbs.T G := r0.tabs ht
  refine ⟨tG.ext s, fun f d H1 gr nf => ?_⟩
  obtain ⟨G', ex, kd⟩ := grown_ext (B := B) (o := mk f d) s tG hm hu gr nf
  exact tt.go _ k _ _ B Q ex.sub (kq.ext ex) fun Ech Q' xo ko => h Ech σ _ _ Q' ex.sub (en.mono ex.le) xo ko
end
end AW

set_option linter.all false
set_option maxRecDepth 100000
set_option maxHeartbeats 4000000
namespace AW
open PySem PySem.Spec PyProof.Rows L2
variable [Tbs]
section
variable {K : PySem.W.Frag} {E E' : XK} {e : EW} {ρ : List (Option D)} {B : Int} {k : KD} {κ : KS} {ta tb : TE} {t : TA} {pr : Pr}
/-- all of them -/
theorem we_all (h : Wa K E e t ρ B fun ds B1 => ∃ bs : List Bool, ds = [.lst (bs.map D.bl)] ∧ k (.bl (bs.all id)) B1) : We K E e (tCB (rAll K) t) ρ B k :=
  we_cb fun σ H G Q s en x q => h σ H G Q s en x fun ds vs B1 G1 H1 ⟨bs, ed, hk⟩ e1 r1 => q ds vs B1 G1 H1 (fun ws H2 G2 Q2 s2 r2 q2 => by
    subst ed
    obtain ⟨v, _, rfl, ⟨a, us, rfl, ha, hr⟩, rfl⟩ := r2
    have z : ∀ (bs : List Bool) (us : List V), RepL K G2 B1 (bs.map D.bl) us → us = bs.map V.bl := by
      intro bs
      induction bs with
      | nil => intro us h; exact h
      | cons b r ih =>
        intro us h
        obtain ⟨v, w, rfl, h1, h2⟩ := h
        rw [show v = _ from h1, ih _ h2]
        rfl
    refine ⟨a, bs, rfl, ?_, q2 _ _ _ _ _ hk (Ext.refl s2) rfl⟩
    rw [← z bs us hr]
    exact SqL.of (s2 _ _ ha)) e1 r1
/-- a value with an address keeps it -/
def refD : D → Bool
  | .tup _ => true
  | .lst _ => true
  | .ins _ _ _ => true
  | .edk => true
  | _ => false
theorem Rep.refD {G : Hp} : ∀ {d : D} {v : V}, Rep K G B d v → AW.refD d = true → ∃ a, v = .ref a
  | .tup _, _, ⟨a, vs, e, _⟩, _ => ⟨a, e⟩
  | .lst _, _, ⟨a, vs, e, _⟩, _ => ⟨a, e⟩
  | .ins _ _ _, _, ⟨a, _, vs, e, _⟩, _ => ⟨a, e⟩
  | .non, _, _, o => nomatch o
  | .bl _, _, _, o => nomatch o
  | .int _, _, _, o => nomatch o
  | .str _, _, _, o => nomatch o
  | .pen _ _, _, _, o => nomatch o
  | .scr _, _, _, o => nomatch o
  | .val _, _, _, o => nomatch o
  | .lam _ _, _, _, o => nomatch o
  | .at_ _ _, _, _, o => nomatch o
  | .tb _, _, _, o => nomatch o
  | .edk, _, ⟨a, e, _⟩, _ => ⟨a, e⟩
  | .dk _ _, _, _, o => nomatch o
  | .kt _, _, _, o => nomatch o
  | .dt _ _ _, _, _, o => nomatch o
def seen (d d' : D) : Prop := d' = d ∧ AW.refD d = false ∨ (∃ a, d' = .at_ (.ref a) d) ∧ AW.refD d = true
theorem ws_see {i : Nat} (h : We K E e ta ρ B fun d B1 => ∀ d', seen d d' → κ.nx (ρ.set i (some d')) B1) : Ws K E e (tAsg ta (gName i)) ρ B κ := fun σ H G Dn s en x q =>
  h σ H G _ s en x fun d v B1 G1 H1 h1 e1 r1 => by
    cases z : AW.refD d with
    | false => exact q.nx _ _ _ _ _ (h1 d (.inl ⟨rfl, z⟩)) e1 (EnvR.set r1 i (en.mono e1.le))
    | true =>
      obtain ⟨a, rfl⟩ := r1.refD z
      exact q.nx _ _ _ _ _ (h1 _ (.inr ⟨⟨a, rfl⟩, z⟩)) e1 (EnvR.set (d := .at_ (.ref a) d) ⟨rfl, r1⟩ i (en.mono e1.le))
/-! ### values that are the same, or equal and flat -/
def DSam : Eqv := fun x y _ => ∃ a, x = .ref a ∧ y = .ref a
theorem mon_sam : Mon DSam := fun _ _ _ _ _ d => d
theorem eqG_sam {X : Cx} : EqG X 0 DSam := by
  intro A pins s σ H x y u v sb I rx ry d
  obtain ⟨a, rfl, rfl⟩ := d
  cases rx
  cases ry
  exact SeqAt.EqAt.same (A := A) (s := s) (.ref a) X.prog X.w X.xe _ ⟨rfl, H, I, Ext.rfl'⟩
def DOd : Eqv := fun x y H => DFlat x y H ∨ DSam x y H
theorem rcG_od {X : Cx} : RcG X 1 (DTup X.K DOd) := rcG_tup (mon_flat.or mon_sam) (eqG_flat.or eqG_sam)
theorem rcG_odl {X : Cx} : RcG X 2 (DList (DTup X.K DOd)) := rcG_list (mon_tup (mon_flat.or mon_sam)) (eqG_tup (mon_flat.or mon_sam) (eqG_flat.or eqG_sam))
inductive Alike : D → D → Prop where
  | non : Alike .non .non
  | bl (b : Bool) : Alike (.bl b) (.bl b)
  | int (i : Int) : Alike (.int i) (.int i)
  | str (x : Str) : Alike (.str x) (.str x)
  | at_ (a : Addr) (d d' : D) : Alike (.at_ (.ref a) d) (.at_ (.ref a) d')
theorem Alike.od {G H : Hp} {d d' : D} {v v' : V} (h : Alike d d') (r : Rep K G B d v) (r' : Rep K G B d' v') : DOd v v' H := by
  cases h with
  | non => rw [show v = _ from r, show v' = _ from r']; exact .inl ⟨rfl, rfl, rfl⟩
  | bl b => rw [show v = _ from r, show v' = _ from r']; exact .inl ⟨rfl, rfl, by cases b <;> rfl⟩
  | int i => rw [show v = _ from r, show v' = _ from r']; exact .inl ⟨rfl, rfl, by simp [eqV]⟩
  | str x => rw [show v = _ from r, show v' = _ from r']; exact .inl ⟨rfl, rfl, by simp [eqV]⟩
  | at_ a d d' => exact .inr ⟨a, r.1, r'.1⟩
def flatD : D → Bool
  | .non => true
  | .bl _ => true
  | .int _ => true
  | .str _ => true
  | _ => false
theorem seen.alike {d d' : D} (s : seen d d') (h : (AW.flatD d || AW.refD d) = true) : Alike d' d' := by
  rw [Bool.or_eq_true] at h
  rcases s with ⟨rfl, z⟩ | ⟨⟨a, rfl⟩, _⟩
  · rcases h with h | h
    · cases d' with
      | non => exact .non
      | bl b => exact .bl b
      | int i => exact .int i
      | str x => exact .str x
      | tup _ => cases z
      | lst _ => cases z
      | ins _ _ _ => cases z
      | pen _ _ => cases h
      | scr _ => cases h
      | val _ => cases h
      | lam _ _ => cases h
      | at_ _ _ => cases h
      | edk => cases z
      | dk _ _ => cases h
      | kt _ => cases h
      | dt _ _ _ => cases h
      | tb _ => cases h
    · rw [h] at z; cases z
  · exact .at_ a _ _
inductive AlikeL : List D → List D → Prop where
  | nil : AlikeL [] []
  | cons {d d' : D} {ds ds' : List D} (h : Alike d d') (r : AlikeL ds ds') : AlikeL (d :: ds) (d' :: ds')
theorem AlikeL.prs {G H : Hp} : ∀ {ds ds' : List D} {vs vs' : List V}, AlikeL ds ds' → RepL K G B ds vs → RepL K G B ds' vs' → Prs DOd vs vs' H := by
  intro ds ds' vs vs' h
  induction h generalizing vs vs' with
  | nil =>
    intro r r'
    rw [show vs = _ from r, show vs' = _ from r']
    exact Prs.nil
  | cons h _ ih =>
    rintro ⟨v, w, rfl, r1, r2⟩ ⟨v', w', rfl, r1', r2'⟩
    exact Prs.cons (h.od r1 r1') (ih r2 r2')
theorem AlikeL.len {ds ds' : List D} (h : AlikeL ds ds') : ds.length = ds'.length := by
  induction h with
  | nil => rfl
  | cons _ _ ih => rw [List.length_cons, List.length_cons, ih]
theorem ro_eqT {ds ds' : List D} (h : AlikeL ds ds') (hk : k (.bl true) B) : Ro K E e (rEqG (DTup K DOd)) (.tup ds) (.tup ds') B k := fun x y H G Q s r1 r2 _ q => by
  obtain ⟨a, vs, rfl, ha, hr⟩ := r1
  obtain ⟨b, ws, rfl, hb, hw⟩ := r2
  have le := Le.of_sub (B := B) (B' := B) s (Int.le_refl _)
  exact ⟨⟨a, b, vs, ws, rfl, rfl, le.seqT ha, le.seqT hb, h.prs hr hw⟩, fun H' ex => q _ _ _ G H' hk ⟨Le.refl _ _, fun a o z => ex _ _ (s _ _ z), fun a o z n _ => ⟨ex _ _ z, n⟩⟩ rfl⟩
inductive AlikeT : List D → List D → Prop where
  | nil : AlikeT [] []
  | cons {as bs : List D} {ds ds' : List D} (h : AlikeL as bs) (r : AlikeT ds ds') : AlikeT (.tup as :: ds) (.tup bs :: ds')
theorem AlikeT.prs {G H : Hp} (s : Sub G H) : ∀ {ds ds' : List D} {vs vs' : List V}, AlikeT ds ds' → RepL K G B ds vs → RepL K G B ds' vs' → Prs (DTup K DOd) vs vs' H := by
  intro ds ds' vs vs' h
  induction h generalizing vs vs' with
  | nil =>
    intro r r'
    rw [show vs = _ from r, show vs' = _ from r']
    exact Prs.nil
  | cons h _ ih =>
    rintro ⟨v, w, rfl, ⟨a, us, rfl, ha, hr⟩, r2⟩ ⟨v', w', rfl, ⟨b, us', rfl, hb, hr'⟩, r2'⟩
    have le := Le.of_sub (B := B) (B' := B) s (Int.le_refl _)
    exact Prs.cons ⟨a, b, us, us', rfl, rfl, le.seqT ha, le.seqT hb, h.prs hr hr'⟩ (ih r2 r2')
theorem ro_eqTs {ds ds' : List D} (h : AlikeT ds ds') (hk : k (.bl true) B) : Ro K E e (rEqG (DList (DTup K DOd))) (.lst ds) (.lst ds') B k := fun x y H G Q s r1 r2 _ q => by
  obtain ⟨a, vs, rfl, ha, hr⟩ := r1
  obtain ⟨b, ws, rfl, hb, hw⟩ := r2
  exact ⟨⟨a, b, vs, ws, rfl, rfl, s _ _ ha, s _ _ hb, h.prs s hr hw⟩, fun H' ex => q _ _ _ G H' hk ⟨Le.refl _ _, fun a o z => ex _ _ (s _ _ z), fun a o z n _ => ⟨ex _ _ z, n⟩⟩ rfl⟩
end
end AW

set_option linter.all false
set_option maxRecDepth 100000
set_option maxHeartbeats 4000000
namespace AW
open PySem PySem.Spec PyProof.Rows L2
variable [Tbs]
/-! ### either reading -/
def tOr2E (t u : TE) : TE := fun σ H Q => t σ H Q ∨ u σ H Q
theorem pe_or2 {X : Cx} {e : Expr} {t u : TE} (h1 : PE X e t) (h2 : PE X e u) : PE X e (tOr2E t u) := ⟨fun pins s σ H Q I h => h.elim (h1.run pins s σ H Q I) (h2.run pins s σ H Q I)⟩
section
variable {K : PySem.W.Frag} {E E' E1 : XK} {e : EW} {ρ : List (Option D)} {B : Int} {k : KD} {κ : KS} {ta tb tl te : TE} {t : TA} {us : TS} {pr : Pr} {i sl : Nat} {ds : List D}
theorem we_orL (h : We K E e ta ρ B k) : We K E e (tOr2E ta tb) ρ B k := fun σ H G Q s en x q => .inl (h σ H G Q s en x q)
theorem we_orR (h : We K E e tb ρ B k) : We K E e (tOr2E ta tb) ρ B k := fun σ H G Q s en x q => .inr (h σ H G Q s en x q)
/-- [f(x) for x in xs]: each element told by itself, the pens left -/
theorem we_lc_each {tl : TE} (h : We K E e tl ρ B fun d B1 => ∃ (ds rs : List D), d = .lst ds ∧ rs.length = ds.length ∧ ds.length < sizeLine ∧
    (∀ (i : Nat) (x r : D), ds[i]? = some x → rs[i]? = some r → ∀ k' : KD, k' r B1 → We K E1 noE te ((ρ.set sl none).set sl (some x)) B1 k') ∧ k (.lst rs) B1) :
    We K E e (tLc (iList K tl) (gName sl) tYes te [sl]) ρ B k := we_lc_list (E1 := E1) (h.imp fun d B1 ⟨ds, rs, ed, hl, hz, hs, hk⟩ => ⟨ds, ed, hz, fun i out B' => out = rs.take i ∧ B' = B1, ⟨rfl, rfl⟩, fun i x out B' hi ⟨eo, eB⟩ => wt_yes ⟨fun _ => by
      subst eB
      have hlt : i < rs.length := by rw [hl]; exact (List.getElem?_eq_some_iff.mp hi).1
      refine hs i x rs[i] hi (List.getElem?_eq_getElem hlt) _ ⟨?_, rfl⟩
      rw [eo, List.take_add_one, List.getElem?_eq_getElem hlt]
      rfl, fun h => nomatch h⟩, fun out B' _ ⟨eo, eB⟩ => by
      rw [eo, eB, ← hl, List.take_length]
      exact hk⟩)
/-! ### a list that is being made -/
theorem EnvR.weakAt {G : Hp} {x : Option V} : ∀ {ρ : List (Option D)} {σ : L2.St} (i : Nat), EnvR K G B ρ σ → EnvR K G B (ρ.set i none) (σ.set i x)
  | [], _, _, h => by rw [show _ = _ from h]; exact rfl
  | _ :: _, _, 0, ⟨y, r, e, h, hr⟩ => ⟨x, r, by rw [e]; rfl, fun d q => (nomatch q), hr⟩
  | _ :: _, _, i + 1, ⟨y, r, e, h, hr⟩ => ⟨y, r.set i x, by rw [e]; rfl, h, EnvR.weakAt i hr⟩
/-- the list at slot i is not told yet: its items are ds -/
def Wsb (K : PySem.W.Frag) (E : XK) (e : EW) (t : TS) (ρ : List (Option D)) (B : Int) (i : Nat) (ds : List D) (κ : KS) : Prop :=
  ∀ σ H G Dn G0 H0 B0 p vs, Sub G H → EnvR K G B ρ σ → σ[i]? = some (some (.ref p)) → H0 p = none → G p = none → H p = some (.lst vs) → RepL K G B ds vs → Ext G0 H0 B0 G H B → XOk K E e G0 H0 B0 → EndsOk K κ Dn G0 H0 B0 → t Dn σ H
theorem wb_start (hi : i < ρ.length) (h : Wa K E e t ρ B fun ds B1 => ds.length ≤ sizeLine ∧ Wsb K E e us (ρ.set i none) B1 i ds κ) : Ws K E e (tSeq (tAsg (tLst t) (gName i)) us) ρ B κ := fun σ H G Dn s en x q =>
  h σ H G _ s en x fun ds vs B1 G1 H1 ⟨h0, h1⟩ e1 r1 => ⟨by rw [← r1.length]; exact h0, fun p np => by
    have g : G1 p = none := by
      cases z : G1 p with
      | none => rfl
      | some u => rw [e1.sub _ _ z] at np; cases np
    have ex : Ext G1 H1 B1 G1 (upd H1 p (.lst vs)) B1 := Ext.hid e1.sub np
    have en1 : EnvR K G1 B1 (ρ.set i none) (σ.set i (some (.ref p))) := by
      exact EnvR.weakAt i (en.mono e1.le)
    refine h1 _ _ G1 Dn G1 H1 B1 p vs ex.sub en1 ?_ np g upd_same r1 ex (x.ext e1) (q.ext e1)
    rw [List.getElem?_set_self (by rw [← en.len]; exact hi)]⟩
theorem wb_append (h : We K E e ta ρ B fun d B1 => ds.length < sizeLine ∧ Wsb K E e us ρ B1 i (ds ++ [d]) κ) : Wsb K E e (tSeq (tDrop (tBM K "list" rAppend (tVar i) (tCons ta tNil))) us) ρ B i ds κ := fun σ H G Dn G0 H0 B0 p vs s en hp np gp hL hr ex x q => by
  refine ⟨.ref p, hp, ?_, ?_⟩
  · exact .inl ⟨rfl, vs, SqL.of hL⟩
  · refine h σ H G _ s en (x.ext ex) fun d v B1 G1 H1 ⟨hl, h1⟩ e1 r1 => ?_
    obtain ⟨z1, z2⟩ := e1.fr p _ hL gp ⟨(fun _ z => nomatch z), fun _ z => nomatch z⟩
    refine ⟨p, vs, v, rfl, rfl, z1, by rw [← hr.length]; exact hl, ?_⟩
    have eA := ex.trans e1
    refine h1 σ (upd H1 p (.lst (vs ++ [v]))) G1 Dn G0 H0 B0 p _ (fun a o z => ?_) (en.mono e1.le) hp np z2 upd_same ((hr.mono e1.le).append ⟨v, [], rfl, r1, rfl⟩) ⟨eA.le, fun a o z => ?_, fun a o z n t => ?_⟩ x q
    · rw [upd_ne (ne_of_none z z2)]; exact e1.sub _ _ z
    · rw [upd_ne (ne_of_none z z2)]; exact e1.sub _ _ z
    · rw [upd_ne (ne_of_none z np)]; exact eA.fr _ _ z n t
theorem wb_end {t : TS} (hi : i < ρ.length) (h : Ws K E e t (ρ.set i (some (.lst ds))) B κ) : Wsb K E e t ρ B i ds κ := fun σ H G Dn G0 H0 B0 p vs s en hp np gp hL hr ex x q => by
  have le : Le G B (upd G p (.lst vs)) B := Le.of_sub (fun a o z => by rw [upd_ne (ne_of_none z gp)]; exact z) (Int.le_refl _)
  have e1 : Ext G0 H0 B0 (upd G p (.lst vs)) H B := ⟨ex.le.trans le, fun a o z => by
    by_cases w : a = p
    · subst w; rw [upd_same] at z; cases z; exact hL
    · rw [upd_ne w] at z; exact s _ _ z, fun a o z n t => by
    rw [upd_ne (ne_of_none z np)]
    exact ex.fr _ _ z n t⟩
  have en1 := EnvR.set (d := .lst ds) (v := .ref p) ⟨p, vs, rfl, upd_same, hr.mono le⟩ i (en.mono le)
  have es : σ.set i (some (V.ref p)) = σ := by
    apply List.ext_getElem?
    intro j
    rw [List.getElem?_set]
    by_cases hj : i = j
    · subst hj
      rw [if_pos rfl, hp]
      split
      · rfl
      · have hl := en.len
        omega
    · rw [if_neg hj]
  rw [es] at en1
  exact h σ H (upd G p (.lst vs)) Dn e1.sub en1 (x.ext e1) (q.ext e1)
end
end AW

set_option linter.all false
set_option maxRecDepth 100000
set_option maxHeartbeats 4000000
namespace AW
open PySem PySem.Spec PyProof.Rows L2
variable [Tbs]
section
variable {K : PySem.W.Frag} {E E' E1 : XK} {e : EW} {ρ : List (Option D)} {B : Int} {k : KD} {κ : KS} {ta tb tl te ty : TE} {tt : TT} {t : TA} {us : TS} {pr : Pr} {i sl : Nat} {ds : List D}
/-- a text's letter -/
theorem ro_ixS {z : Str} {i : Int} {c : _} (hz : z.length ≤ sizeLine) (h : atI z.cps.toList i = some c) (hk : k (.str ⟨#[c]⟩) B) : Ro K E e rIxS (.str z) (.int i) B k := fun x y H G Q s r1 r2 _ q =>
  ⟨z, i, c, r1, r2, hz, h, q _ _ _ _ _ hk (Ext.refl s) rfl⟩
theorem we_gcd3 (h : Wa K E e t ρ B fun ds B1 => ∃ a b c : Int, ds = [.int a, .int b, .int c] ∧ k (.int (((a.natAbs.gcd b.natAbs).gcd c.natAbs : Nat) : Int)) B1) : We K E e (tCB rGcd3 t) ρ B k :=
  we_cb fun σ H G Q s en x q => h σ H G Q s en x fun ds vs B1 G1 H1 ⟨a, b, c, ed, hk⟩ e1 r1 => q ds vs B1 G1 H1 (fun ws H2 G2 Q2 s2 r2 q2 => by
    subst ed
    obtain ⟨_, _, rfl, rfl, _, _, rfl, rfl, _, _, rfl, rfl, rfl⟩ := r2
    exact ⟨a, b, c, rfl, q2 _ _ _ _ _ hk (Ext.refl s2) rfl⟩) e1 r1
theorem ro_neB {i j : Bool} (h : k (.bl (!decide (i = j))) B) : Ro K E e rNe (.bl i) (.bl j) B k := fun x y H G Q s r1 r2 _ q => by
  rw [show x = _ from r1, show y = _ from r2]
  have e1 : decide (V.bl i = V.bl j) = decide (i = j) := by
    by_cases z : i = j
    · subst z; simp
    · rw [decide_eq_false z, decide_eq_false fun w => z (V.bl.inj w)]
  refine ⟨rfl, ?_⟩
  rw [e1]
  exact q _ _ _ _ _ h (Ext.refl s) rfl
theorem ro_eqB {i j : Bool} (h : k (.bl (decide (i = j))) B) : Ro K E e rEq (.bl i) (.bl j) B k := fun x y H G Q s r1 r2 _ q => by
  rw [show x = _ from r1, show y = _ from r2]
  have e1 : decide (V.bl i = V.bl j) = decide (i = j) := by
    by_cases z : i = j
    · subst z; simp
    · rw [decide_eq_false z, decide_eq_false fun w => z (V.bl.inj w)]
  refine ⟨rfl, ?_⟩
  rw [e1]
  exact q _ _ _ _ _ h (Ext.refl s) rfl
/-- isinstance(.., tuple) of a tuple -/
theorem we_isi_tuple (h : Wa K E e t ρ B fun ds B1 => ∃ xs : List D, ds = [.tup xs, .val (.ty "tuple")] ∧ k (.bl true) B1) : We K E e (tCB (rIsi K) t) ρ B k :=
  we_cb fun σ H G Q s en x q => h σ H G Q s en x fun ds vs B1 G1 H1 ⟨xs, ed, hk⟩ e1 r1 => q ds vs B1 G1 H1 (fun ws H2 G2 Q2 s2 r2 q2 => by
    subst ed
    obtain ⟨_, _, rfl, ⟨a, us, rfl, ha, hr⟩, c, _, rfl, rc, rfl⟩ := r2
    rw [show c = _ from rc]
    have hb := (Le.of_sub (B := B1) (B' := B1) s2 (Int.le_refl _)).seqT ha
    have ty : TyX K H2 (.ref a) (.type "tuple") := by
      rcases hb with (hb | ⟨o, hb⟩) | ⟨o, its, n, hk, hc, _⟩
      · exact .base (.tup hb)
      · exact .fTuple hb
      · exact .kTuple hk hc
    exact ⟨_, _, _, _, true, rfl, .ty _, ty, kit_ty (by decide +kernel), q2 _ _ _ _ _ hk (Ext.refl s2) rfl⟩) e1 r1
/-- a tuple of ints of the text -/
theorem we_constT {c : Addr} {ns : List Int} (q : ∀ H : Hp, SqT K H c (ns.map V.int)) (hk : k (.tup (ns.map D.int)) B) : We K E e (tC (.ref c)) ρ B k :=
  We.at (d := .tup (ns.map D.int)) (fun σ H G s en => ⟨.ref c, ⟨c, _, rfl, q G, RepL.ints ns⟩, fun Q q => q⟩) hk
theorem we_intofB (h : Wa K E e t ρ B fun ds B1 => ∃ b : Bool, ds = [.bl b] ∧ k (.int (if b then 1 else 0)) B1) : We K E e (tCB (fun xs H Q => (∃ i, xs = [.int i] ∧ Q (.int i) H) ∨ ∃ k, xs = [.bl k] ∧ Q (.int (if k then 1 else 0)) H) t) ρ B k :=
  we_cb fun σ H G Q s en x q => h σ H G Q s en x fun ds vs B1 G1 H1 ⟨b, ed, hk⟩ e1 r1 => q ds vs B1 G1 H1 (fun ws H2 G2 Q2 s2 r2 q2 => by
    subst ed
    obtain ⟨v, _, rfl, rv, rfl⟩ := r2
    rw [show v = _ from rv]
    exact .inr ⟨b, rfl, q2 _ _ _ _ _ hk (Ext.refl s2) rfl⟩) e1 r1
theorem we_lenS (h : Wa K E e t ρ B fun ds B1 => ∃ ns : List Int, ds = [.scr ns] ∧ k (.int ns.length) B1) : We K E e (tCB (fun xs H Q => ∃ p ys, xs = [.ref p] ∧ (SqL K H p ys ∨ SqT K H p ys) ∧ Q (.int ys.length) H) t) ρ B k :=
  we_cb fun σ H G Q s en x q => h σ H G Q s en x fun ds vs B1 G1 H1 ⟨ns, ed, h1⟩ e1 r1 => q ds vs B1 G1 H1 (fun ws H2 G2 Q2 s2 r2 q2 => by
    subst ed
    obtain ⟨v, _, rfl, ⟨_, a, rfl, ha⟩, rfl⟩ := r2
    exact ⟨a, _, rfl, .inl ((Le.of_sub (B := B1) (B' := B1) s2 (Int.le_refl _)).seqL ha), by rw [List.length_map]; exact q2 _ _ _ _ _ h1 (Ext.refl s2) rfl⟩) e1 r1
/-- raise C() -/
theorem ws_raise0 {C : Addr} (h : e C none B) : Ws K E e (fun _ σ H => (fun (_ : L2.St) (H : Hp) (Q : XK) => Q (.ref C) none H) σ H fun cls d H' => E cls d H') ρ B κ := fun σ H G Dn s en x q => x C none B G H h (Ext.refl s)
/-- xs[::-1] -/
theorem we_revL (h : We K E e ta ρ B fun d B1 => ∃ ds, d = .lst ds ∧ k (.lst ds.reverse) B1) : We K E e (tRevL K ta) ρ B k := fun σ H G Q s en x q =>
  h σ H G _ s en x fun d v B1 G1 H1 ⟨ds, ed, hk⟩ e1 r1 => by
    subst ed
    obtain ⟨a, vs, rfl, ha, hr⟩ := r1
    have rev : ∀ (ds : List D) (vs : List V), RepL K G1 B1 ds vs → RepL K G1 B1 ds.reverse vs.reverse := by
      intro ds
      induction ds with
      | nil => intro vs h; rw [show vs = _ from h]; exact rfl
      | cons d r ih =>
        intro vs h
        obtain ⟨v, w, rfl, h1, h2⟩ := h
        rw [List.reverse_cons, List.reverse_cons]
        exact (ih _ h2).append ⟨v, [], rfl, h1, rfl⟩
    refine ⟨a, vs, rfl, SqL.of (e1.sub _ _ ha), fun p np => q _ _ _ _ _ hk (e1.trans (Ext.new (B := B1) e1.sub np)) ⟨p, _, rfl, upd_same, (rev ds vs hr).mono (Ext.new (B := B1) e1.sub np).le⟩⟩
/-- xs * n -/
theorem ro_rep {xs : List D} {n : Int} (h0 : -(2 ^ 63) ≤ n) (h1 : n < 2 ^ 63) (hl : xs.length * n.toNat ≤ sizeLine) (hk : k (.lst (List.replicate n.toNat xs).flatten) B) : Ro K E e rRep (.lst xs) (.int n) B k := fun x y H G Q s r1 r2 _ q => by
  obtain ⟨a, vs, rfl, ha, hr⟩ := r1
  have rep : ∀ m : Nat, RepL K G B (List.replicate m xs).flatten (List.replicate m vs).flatten := by
    intro m
    induction m with
    | zero => exact rfl
    | succ m ih =>
      rw [List.replicate_succ, List.replicate_succ, List.flatten_cons, List.flatten_cons]
      exact hr.append ih
  exact ⟨a, n, vs, rfl, r2, s _ _ ha, h0, h1, by rw [← hr.length]; exact hl, fun p np => q _ _ _ _ _ hk (Ext.new (B := B) s np) ⟨p, _, rfl, upd_same, (rep _).mono (Ext.new (B := B) s np).le⟩⟩
/-- list(script) -/
theorem we_listS (h : Wa K E e t ρ B fun ds B1 => ∃ ns : List Int, ds = [.scr ns] ∧ k (.lst (ns.map D.int)) B1) :
    We K E e (tCB (fun xs H Q => ∃ p ys, xs = [.ref p] ∧ (SqL K H p ys ∨ SqT K H p ys) ∧ ∀ l, H l = none → Q (.ref l) (upd H l (.lst ys))) t) ρ B k :=
  we_cb fun σ H G Q s en x q => h σ H G Q s en x fun ds vs B1 G1 H1 ⟨ns, ed, hk⟩ e1 r1 => q ds vs B1 G1 H1 (fun ws H2 G2 Q2 s2 r2 q2 => by
    subst ed
    obtain ⟨v, _, rfl, ⟨_, a, rfl, ha⟩, rfl⟩ := r2
    have ha2 : SqL K H2 a (ns.map V.int) := (Le.of_sub (B := B1) (B' := B1) s2 (Int.le_refl _)).seqL ha
    exact ⟨a, _, rfl, .inl ha2, fun l nl => q2 _ _ _ _ _ hk (Ext.new (B := B1) s2 nl) ⟨l, _, rfl, upd_same, RepL.ints ns⟩⟩) e1 r1
theorem we_edk (hk : k .edk B) : We K E e tDNewK ρ B k := fun σ H G Q s en x q p np => q _ _ _ _ _ hk (Ext.new (B := B) s np) ⟨p, rfl, upd_same⟩
/-! ### {..}[key] -/
def lookD (l : List (Str × D)) (z : Str) : Option D := l.foldl (fun o kv => if kv.1 = z then some kv.2 else o) none
def Wps (K : PySem.W.Frag) (E : XK) (e : EW) (ρ : List (Option D)) : List (TE × TE) → Int → (List (Str × D) → Int → Prop) → Prop
  | [], B, k => k [] B
  | (tk, tv) :: r, B, k => We K E e tk ρ B fun a B1 => ∃ z, a = .str z ∧ We K E e tv ρ B1 fun d B2 => Wps K E e ρ r B2 fun l B3 => k ((z, d) :: l) B3
theorem wps_run : ∀ (trs : List (TE × TE)) {B : Int} {k : List (Str × D) → Int → Prop}, Wps K E e ρ trs B k → ∀ σ H G (Q : List (V × V) → Hp → Prop), Sub G H → EnvR K G B ρ σ → XOk K E e G H B →
    (∀ l (vs : List V) B' G' H', k l B' → Ext G H B G' H' B' → RepL K G' B' (l.map (·.2)) vs → Q ((l.map (·.1)).zip vs |>.map fun p => (V.str p.1, p.2)) H') → tPairs trs σ H Q
  | [], B, k, h, σ, H, G, Q, s, en, x, q => by
    have := q [] [] B G H h (Ext.refl s) rfl
    exact this
  | (tk, tv) :: r, B, k, h, σ, H, G, Q, s, en, x, q => by
    refine h σ H G _ s en x fun a v B1 G1 H1 ⟨z, ez, h1⟩ e1 r1 => ?_
    subst ez
    rw [show v = _ from r1]
    refine h1 σ H1 G1 _ e1.sub (en.mono e1.le) (x.ext e1) fun d w B2 G2 H2 h2 e2 r2 => ?_
    refine wps_run r h2 σ H2 G2 _ e2.sub ((en.mono e1.le).mono e2.le) ((x.ext e1).ext e2) fun l vs B3 G3 H3 hk e3 r3 => ?_
    exact q ((z, d) :: l) (w :: vs) B3 G3 H3 hk ((e1.trans e2).trans e3) ⟨w, vs, rfl, r2.mono e3.le, r3⟩
theorem look_merge {G : Hp} {B : Int} (z : Str) : ∀ (l : List (Str × D)) (vs : List V) (acc : List (Key × V)) (o : Option D), RepL K G B (l.map (·.2)) vs → (∀ d, o = some d → ∃ v, valV acc (Sum.inr z) = some v ∧ Rep K G B d v) →
    ∀ d, l.foldl (fun o kv => if kv.1 = z then some kv.2 else o) o = some d → ∃ v, valV (mergeK acc ((l.map (·.1)).zip vs |>.map fun p => ((Sum.inr p.1 : Key), p.2))) (Sum.inr z) = some v ∧ Rep K G B d v
  | [], vs, acc, o, hr, ho, d, h => by
    rw [show vs = _ from hr]
    exact ho d h
  | (y, d0) :: l, vs, acc, o, hr, ho, d, h => by
    obtain ⟨v, w, rfl, h1, h2⟩ := hr
    refine look_merge z l w (putK acc (Sum.inr y) v) (if y = z then some d0 else o) h2 (fun d1 e1 => ?_) d h
    rw [valV_put]
    by_cases hy : y = z
    · subst hy
      rw [if_pos rfl] at e1
      cases e1
      exact ⟨v, if_pos rfl, h1⟩
    · rw [if_neg hy] at e1
      obtain ⟨u, k1, k2⟩ := ho d1 e1
      refine ⟨u, ?_, k2⟩
      rw [if_neg (fun w => hy (Sum.inr.inj w).symm)]
      exact k1
theorem we_dsel {trs : List (TE × TE)} (h : Wps K E e ρ trs B fun l B1 => l.length ≤ 15 ∧ We K E e ty ρ B1 fun kd B2 => ∃ z d, kd = .str z ∧ lookD l z = some d ∧ k d B2) : We K E e (tDGet (tDisp trs) ty) ρ B k := fun σ H G Q s en x q => by
  intro p np
  have ex := Ext.hid (B := B) (o := .dK []) s np
  have gp : G p = none := by
    cases z : G p with
    | none => rfl
    | some u => rw [s _ _ z] at np; cases np
  refine wps_run trs h σ _ G _ ex.sub en (x.ext ex) fun l vs B1 G1 H1 ⟨hl, h1⟩ e1 r1 => ?_
  obtain ⟨z1, z2⟩ := e1.fr p _ upd_same gp ⟨(fun _ z => nomatch z), fun _ z => nomatch z⟩
  have hll : l.length = vs.length := by rw [← r1.length, List.length_map]
  refine ⟨z1, (l.map (·.1)).zip vs |>.map fun p => ((Sum.inr p.1 : Key), p.2), ?_, ?_, ?_⟩
  · rw [List.map_map]
    rfl
  · rw [List.length_map, List.length_zip, List.length_map, ← hll, Nat.min_self]
    exact hl
  · have eA : Ext G H B G1 (upd H1 p (.dK (mergeK [] ((l.map (·.1)).zip vs |>.map fun p => ((Sum.inr p.1 : Key), p.2))))) B1 := by
      have eB := ex.trans e1
      refine ⟨eB.le, fun a o z => ?_, fun a o z n t => ?_⟩
      · rw [upd_ne (ne_of_none z z2)]; exact e1.sub _ _ z
      · rw [upd_ne (ne_of_none z np)]; exact eB.fr _ _ z n t
    refine h1 σ _ G1 _ eA.sub (en.mono eA.le) (x.ext eA) fun kd v B2 G2 H2 ⟨z, d, ez, hz, hk⟩ e2 r2 => ?_
    subst ez
    rw [show v = _ from r2]
    obtain ⟨y1, y2⟩ := e2.fr p _ upd_same z2 ⟨(fun _ z => nomatch z), fun _ z => nomatch z⟩
    obtain ⟨v, w1, w2⟩ := look_merge (K := K) (G := G1) (B := B1) z l vs [] none r1 (fun d q => nomatch q) d hz
    exact ⟨p, v, rfl, by rw [← w1]; exact DGet.k (k := Sum.inr z) y1, q _ _ _ _ _ hk (eA.trans e2) (w2.mono e2.le)⟩
/-! ### comprehensions over a range -/
theorem we_lc_range1 (h : Wa K E e t ρ B fun as B1 => ∃ j : Int, as = [.int j] ∧ -(2 ^ 62) ≤ j ∧ j < 2 ^ 62 ∧ j.toNat < sizeLine ∧ ∃ I : Nat → List D → Int → Prop, I 0 [] B1 ∧
    (∀ (i : Nat) out B', i < j.toNat → I i out B' → Wt K E1 noE tt ((ρ.set sl none).set sl (some (.int (0 + i)))) B' fun b B3 => (b = true → We K E1 noE te ((ρ.set sl none).set sl (some (.int (0 + i)))) B3 fun y B4 => I (i + 1) (out ++ [y]) B4) ∧ (b = false → I (i + 1) out B3)) ∧
    ∀ out B', out.length ≤ j.toNat → I j.toNat out B' → k (.lst out) B') : We K E e (tLc (iRng1 t) (gName sl) tt te [sl]) ρ B k := fun σ H G Q s en x q =>
  h σ H G _ s en x fun as vs B1 G1 H1 ⟨j, ed, j0, j1, jl, I, i0, hs, hd⟩ e1 r1 => by
    subst ed
    obtain ⟨v, _, rfl, rv, rfl⟩ := r1
    rw [show v = _ from rv]
    refine ⟨j, rfl, j0, j1, fun L nL => ?_⟩
    refine lc_range (fun i H' => LcOk K (fun out B => out.length ≤ i ∧ I i out B) L G1 H1 B1 H') (lc_start e1.sub nL ⟨Nat.le_refl _, i0⟩) ?_ ?_
    · intro i H' hi hz
      have hz2 := hz
      exact lc_step nL e1.sub (en.mono e1.le) hz (by omega) (d := .int (0 + i)) rfl (fun out B' hI => hs i out B' hi hI)
    · intro H' hz
      exact lc_end e1 nL hz (fun out B' hI => hd out B' hI.1 hI.2) q
/-- [f(i) for i in range(j)], the pens left -/
theorem we_lc_rangeF (h : Wa K E e t ρ B fun as B1 => ∃ j : Int, as = [.int j] ∧ -(2 ^ 62) ≤ j ∧ j < 2 ^ 62 ∧ j.toNat < sizeLine ∧ ∃ f : Nat → D, (∀ i : Nat, i < j.toNat → ∀ k' : KD, k' (f i) B1 → We K E1 noE te ((ρ.set sl none).set sl (some (.int (0 + i)))) B1 k') ∧ k (.lst ((List.range j.toNat).map f)) B1) :
    We K E e (tLc (iRng1 t) (gName sl) tYes te [sl]) ρ B k := we_lc_range1 (E1 := E1) fun σ H G Q s en x q => h σ H G Q s en x fun as vs B1 G1 H1 ⟨j, ed, j0, j1, jl, f, hs, hk⟩ e1 r1 => q as vs B1 G1 H1 ⟨j, ed, j0, j1, jl, fun i out B' => out = (List.range i).map f ∧ B1 = B', ⟨rfl, rfl⟩, fun i out B' hi ⟨eo, eB⟩ => by
      subst eo eB
      refine wt_yes ⟨fun _ => hs i hi _ ⟨?_, rfl⟩, fun z => nomatch z⟩
      rw [List.range_succ, List.map_append]
      rfl, fun out B' _ ⟨eo, eB⟩ => by
      subst eo eB
      exact hk⟩ e1 r1
end
end AW

set_option linter.all false
set_option maxRecDepth 100000
set_option maxHeartbeats 4000000
namespace AW
open PySem PySem.Spec PyProof.Rows L2
variable [Tbs]
/-! instances that are called, classes made with errors -/
section
variable {K : PySem.W.Frag} {E E' : XK} {e : EW} {ρ : List (Option D)} {B : Int} {k : KD} {κ : KS} {ta tb tf : TE} {t : TA} {pr : Pr}
theorem we_callObj {C : Addr} (h : We K E e tf ρ B fun d B1 => ∃ ns fs, d = .ins C ns fs ∧ Wa K E e t ρ B1 fun ds B2 => pr (d :: ds) B2 k noE) : We K E e (tCallO C (spD K pr) E' tf t) ρ B k := fun σ H G Q s en x q =>
  h σ H G _ s en x fun d v B1 G1 H1 ⟨ns, fs, ed, h1⟩ e1 r1 => by
    subst ed
    obtain ⟨a, dx, vs, rfl, ha, hl, hr⟩ := id r1
    refine ⟨a, rfl, h1 σ H1 G1 _ e1.sub (en.mono e1.le) (x.ext e1) fun ds ws B2 G2 H2 h2 e2 r2 => ⟨⟨dx, _, e2.sub _ _ (e2.le.keep _ _ ha nopen_ins)⟩, ?_⟩⟩
    exact ⟨G2, .ins C ns fs :: ds, B2, k, noE, e2.sub, ⟨_, _, rfl, r1.mono e2.le, r2⟩, h2, (q.ext e1).ext e2, XOk.no⟩
theorem we_callObjE {C : Addr} (h : We K E e tf ρ B fun d B1 => ∃ ns fs, d = .ins C ns fs ∧ Wa K E e t ρ B1 fun ds B2 => pr (d :: ds) B2 k e) : We K E e (tCallO C (spD K pr) E tf t) ρ B k := fun σ H G Q s en x q =>
  h σ H G _ s en x fun d v B1 G1 H1 ⟨ns, fs, ed, h1⟩ e1 r1 => by
    subst ed
    obtain ⟨a, dx, vs, rfl, ha, hl, hr⟩ := id r1
    refine ⟨a, rfl, h1 σ H1 G1 _ e1.sub (en.mono e1.le) (x.ext e1) fun ds ws B2 G2 H2 h2 e2 r2 => ⟨⟨dx, _, e2.sub _ _ (e2.le.keep _ _ ha nopen_ins)⟩, ?_⟩⟩
    exact ⟨G2, .ins C ns fs :: ds, B2, k, e, e2.sub, ⟨_, _, rfl, r1.mono e2.le, r2⟩, h2, (q.ext e1).ext e2, (x.ext e1).ext e2⟩
theorem we_makeE {C : Addr} {ns : List Str} {pi : List D → Int → (List D → Int → Prop) → EW → Prop} (h : Wa K E e t ρ B fun ds B1 => pi ds B1 (fun fs B2 => k (.ins C ns fs) B2) e) : We K E e (tMake C (spI K C ns pi) [] E t) ρ B k := fun σ H G Q s en x q =>
  h σ H G _ s en x fun ds vs B1 G1 H1 h1 e1 r1 => by
    show ∀ p dx, H1 p = none → H1 dx = none → dx ≠ p → _
    intro p dx np nd ne
    rw [List.append_nil]
    have gp : G1 p = none := by
      cases z : G1 p with
      | none => rfl
      | some u => rw [e1.sub _ _ z] at np; cases np
    have gd : G1 dx = none := by
      cases z : G1 dx with
      | none => rfl
      | some u => rw [e1.sub _ _ z] at nd; cases nd
    have eh : Ext G1 H1 B1 G1 (upd (upd H1 dx (.own p)) p (.ins C dx [])) B1 := (Ext.hid e1.sub nd).trans (Ext.hid (Ext.hid (B := B1) e1.sub nd).sub (by rw [upd_ne ne.symm]; exact np))
    refine ⟨p, dx, vs, G1, ds, B1, _, e, rfl, upd_same, gp, gd, ne, by rw [upd_ne ne, upd_same], eh.sub, r1, h1, fun fs us B2 G2 H2 hk le sub fr g2 h2 hl hr => ⟨rfl, ?_⟩, (x.ext e1).ext eh⟩
    have e2 : Ext G H B (upd G2 p (.ins C dx (ns.zip us))) H2 B2 := by
      refine ⟨(e1.le.trans le).trans (Le.of_sub (fun a o z => by rw [upd_ne (ne_of_none z g2)]; exact z) (Int.le_refl _)), fun a o z => ?_, fun a o z n t => ?_⟩
      · by_cases hq : a = p
        · subst hq; rw [upd_same] at z; cases z; exact h2
        · rw [upd_ne hq] at z; exact sub _ _ z
      · obtain ⟨z1, z2⟩ := e1.fr a o z n t
        have hq : a ≠ p := ne_of_none z1 np
        obtain ⟨z3, z4⟩ := fr a o (by rw [upd_ne hq, upd_ne (ne_of_none z1 nd)]; exact z1) z2 hq t
        exact ⟨z3, by rw [upd_ne hq]; exact z4⟩
    exact q _ _ _ _ _ hk e2 ⟨p, dx, us, rfl, upd_same, hl, hr.mono (Le.of_sub (fun a o z => by rw [upd_ne (ne_of_none z g2)]; exact z) (Int.le_refl _))⟩
theorem nopen_ents {ents : List (Key × V)} (h : valV ents (Sum.inr "cells") = none) : ¬ IsPen (.dK ents) := fun z => by
  rcases z with ⟨k, l, c, s, r, z⟩ | ⟨_, z⟩
  · injection z with z
    subst z
    unfold penE at h
    simp [valV] at h
  · cases z
theorem merge_none (z : Str) : ∀ (l : List (Str × V)) (acc : List (Key × V)), (∀ p ∈ l, p.1 ≠ z) → valV acc (Sum.inr z) = none → valV (mergeK acc (l.map fun p => ((Sum.inr p.1 : Key), p.2))) (Sum.inr z) = none
  | [], acc, _, h => h
  | p :: l, acc, hl, h => by
    show valV (mergeK (putK acc (Sum.inr p.1) p.2) (l.map fun p => ((Sum.inr p.1 : Key), p.2))) (Sum.inr z) = none
    refine merge_none z l _ (fun q hq => hl q (List.mem_cons_of_mem _ hq)) ?_
    rw [valV_put, if_neg (fun w => hl p (List.mem_cons_self ..) (Sum.inr.inj w).symm)]
    exact h
/-- a dict of written names -/
theorem we_disp {trs : List (TE × TE)} (h : Wps K E e ρ trs B fun l B1 => l.length ≤ 15 ∧ (∀ p ∈ l, p.1 ≠ "cells") ∧ k (.dk (l.map (·.1)) (l.map (·.2))) B1) : We K E e (tDisp trs) ρ B k := fun σ H G Q s en x q => by
  intro p np
  have ex := Ext.hid (B := B) (o := .dK []) s np
  have gp : G p = none := by
    cases z : G p with
    | none => rfl
    | some u => rw [s _ _ z] at np; cases np
  refine wps_run trs h σ _ G _ ex.sub en (x.ext ex) fun l vs B1 G1 H1 ⟨hl, hc, h1⟩ e1 r1 => ?_
  obtain ⟨z1, z2⟩ := e1.fr p _ upd_same gp ⟨(fun _ z => nomatch z), fun _ z => nomatch z⟩
  have hll : l.length = vs.length := by rw [← r1.length, List.length_map]
  refine ⟨z1, (l.map (·.1)).zip vs |>.map fun p => ((Sum.inr p.1 : Key), p.2), ?_, ?_, ?_⟩
  · rw [List.map_map]
    rfl
  · rw [List.length_map, List.length_zip, List.length_map, ← hll, Nat.min_self]
    exact hl
  · have eB := ex.trans e1
    have np2 : ¬ IsPen (.dK (mergeK [] ((l.map (·.1)).zip vs |>.map fun p => ((Sum.inr p.1 : Key), p.2)))) := nopen_ents (merge_none "cells" _ _ (fun p hp => by
      have := (List.of_mem_zip (a := p.1) (b := p.2) hp).1
      obtain ⟨r, hr, er⟩ := List.mem_map.mp this
      rw [← er]
      exact hc r hr) rfl)
    have le2 : Le G1 B1 (upd G1 p (.dK (mergeK [] ((l.map (·.1)).zip vs |>.map fun p => ((Sum.inr p.1 : Key), p.2))))) B1 := Le.of_sub (fun a o z => by rw [upd_ne (ne_of_none z z2)]; exact z) (Int.le_refl _)
    have eA : Ext G H B (upd G1 p (.dK (mergeK [] ((l.map (·.1)).zip vs |>.map fun p => ((Sum.inr p.1 : Key), p.2))))) (upd H1 p (.dK (mergeK [] ((l.map (·.1)).zip vs |>.map fun p => ((Sum.inr p.1 : Key), p.2))))) B1 := by
      refine ⟨eB.le.trans le2, fun a o z => ?_, fun a o z n t => ?_⟩
      · by_cases hq : a = p
        · subst hq; rw [upd_same] at z ⊢; exact z
        · rw [upd_ne hq] at z ⊢; exact e1.sub _ _ z
      · have hq : a ≠ p := ne_of_none z np
        rw [upd_ne hq, upd_ne hq]
        exact eB.fr _ _ z n t
    exact q _ _ _ _ _ h1 eA ⟨p, vs, rfl, upd_same, np2, r1.mono le2⟩
theorem we_dget (h : We K E e ta ρ B fun d B1 => ∃ l : List (Str × D), d = .dk (l.map (·.1)) (l.map (·.2)) ∧ We K E e tb ρ B1 fun kd B2 => ∃ z d', kd = .str z ∧ lookD l z = some d' ∧ k d' B2) : We K E e (tDGet ta tb) ρ B k := fun σ H G Q s en x q =>
  h σ H G _ s en x fun d v B1 G1 H1 ⟨l, ed, h1⟩ e1 r1 => by
    subst ed
    refine h1 σ H1 G1 _ e1.sub (en.mono e1.le) (x.ext e1) fun kd u B2 G2 H2 ⟨z, d', ez, hz, hk⟩ e2 r2 => ?_
    subst ez
    rw [show u = _ from r2]
    obtain ⟨a, vs, rfl, ha, n, hr⟩ := r1.mono e2.le
    obtain ⟨v, w1, w2⟩ := look_merge (K := K) (G := G2) (B := B2) z l vs [] none hr (fun d q => nomatch q) d' hz
    exact ⟨a, v, rfl, by rw [← w1]; exact DGet.k (k := Sum.inr z) (e2.sub _ _ ha), q _ _ _ _ _ hk (e1.trans e2) w2⟩
end
end AW

set_option linter.all false
set_option maxRecDepth 100000
set_option maxHeartbeats 4000000
namespace AW
open PySem PySem.Spec PyProof.Rows L2
variable [Tbs]
/-! while loops, halving -/
section
variable {K : PySem.W.Frag} {E E' : XK} {e : EW} {ρ : List (Option D)} {B : Int} {k : KD} {κ : KS} {ta tb tf : TE} {t : TA} {pr : Pr}
/-- the tables of the lambdas, handed on with a value -/
theorem we_varT {i j : Nat} {d d0 : D} (h : ρ[i]? = some (some d)) (hj : ρ[j]? = some (some d0)) (ht : tabD d0 = true) (hk : k (.tb d) B) : We K E e (tVar i) ρ B k :=
  We.at (d := .tb d) (fun σ H G s en => let ⟨v, h1, h2⟩ := en.get h; let ⟨_, _, h3⟩ := en.get hj; ⟨v, ⟨h3.tabs ht, h2⟩, fun Q q => ⟨v, h1, q⟩⟩) hk
theorem we_varU {i : Nat} {d : D} (h : ρ[i]? = some (some (.tb d))) (hk : k d B) : We K E e (tVar i) ρ B k :=
  We.at (d := d) (fun σ H G s en => let ⟨v, h1, h2⟩ := en.get h; ⟨v, h2.2, fun Q q => ⟨v, h1, q⟩⟩) hk
theorem ws_while {c : TT} {ts : TS} (I : Nat → KE') (m : Nat) (h0 : I m ρ B)
    (hs : ∀ n ρ' B', I n ρ' B' → Wt K E e c ρ' B' fun b B1 => (b = true → Ws K E e ts ρ' B1 { nx := fun ρ2 B2 => ∃ n', n' < n ∧ I n' ρ2 B2, rt := κ.rt, bk := κ.nx, ct := fun ρ2 B2 => ∃ n', n' < n ∧ I n' ρ2 B2 }) ∧ (b = false → κ.nx ρ' B1)) : Ws K E e (tWhile c ts) ρ B κ := fun σ H G Dn s en x q => by
  refine ⟨fun n σ' H' => ∃ ρ' B' G', I n ρ' B' ∧ Ext G H B G' H' B' ∧ EnvR K G' B' ρ' σ', ⟨m, ρ, B, G, h0, Ext.refl s, en⟩, ?_⟩
  rintro n σ' H' ⟨ρ', B', G', hI, e1, en1⟩
  refine hs n ρ' B' hI σ' H' G' _ e1.sub en1 (x.ext e1) fun b B2 G2 H2 hb e2 => ?_
  have eA := e1.trans e2
  cases b with
  | true =>
    rw [if_pos rfl]
    refine ⟨fun σ3 H3 => ∃ n', n' < n ∧ ∃ ρ' B' G', I n' ρ' B' ∧ Ext G H B G' H3 B' ∧ EnvR K G' B' ρ' σ3, fun _ _ z => z, ?_⟩
    refine hb.1 rfl σ' H2 G2 _ e2.sub (en1.mono e2.le) (x.ext eA) ⟨?_, q.rt.ext eA, q.nx.ext eA, ?_⟩
    · rintro ρ3 σ3 B3 G3 H3 ⟨n', l, h3⟩ e3 en3
      exact ⟨n', l, ρ3, B3, G3, h3, eA.trans e3, en3⟩
    · rintro ρ3 σ3 B3 G3 H3 ⟨n', l, h3⟩ e3 en3
      exact ⟨n', l, ρ3, B3, G3, h3, eA.trans e3, en3⟩
  | false =>
    rw [if_neg Bool.false_ne_true]
    exact q.nx _ _ _ _ _ (hb.2 rfl) eA (en1.mono e2.le)
theorem ro_and1 {i : Int} (h : k (.int (i % 2)) B) : Ro K E e (fun x y H Q => ∃ (i : Int) (k : Nat), x = .int i ∧ y = .int (2 ^ k - 1) ∧ Q (.int (i % 2 ^ k)) H) (.int i) (.int 1) B k := fun x y H G Q s r1 r2 _ q =>
  ⟨i, 1, r1, r2, q (.int (i % 2)) _ _ _ _ h (Ext.refl s) rfl⟩
theorem ws_for_range2 {ts : TS} {g : TG} (h : Wa K E e t ρ B fun ds B1 => ∃ lo hi : Int, ds = [.int lo, .int hi] ∧ (-(2 ^ 62) ≤ lo ∧ lo < 2 ^ 62 ∧ -(2 ^ 62) ≤ hi ∧ hi < 2 ^ 62) ∧ ∃ I : Nat → KE', I 0 ρ B1 ∧ (∀ (i : Nat) ρ' B', i < (hi - lo).toNat → I i ρ' B' → Wg K g (.int (lo + i)) ρ' B' fun ρ2 B2 => Ws K E e ts ρ2 B2 { nx := I (i + 1), rt := κ.rt, bk := κ.nx, ct := I (i + 1) }) ∧ ∀ ρ' B', I (hi - lo).toNat ρ' B' → κ.nx ρ' B') :
    Ws K E e (tFor (iRng2 t) g ts) ρ B κ := fun σ H G Dn s en x q =>
  h σ H G _ s en x fun ds vs B1 G1 H1 ⟨lo, hi, ed, hb, I, i0, hs, hd⟩ e1 r1 => by
    subst ed
    obtain ⟨v, _, rfl, rv, u, _, rfl, ru, rfl⟩ := r1
    rw [show v = _ from rv, show u = _ from ru]
    exact ⟨lo, hi, rfl, hb, for_range_D e1.sub (en.mono e1.le) (x.ext e1) (q.ext e1) I lo i0 hs hd⟩
theorem ro_inT {a : D} {ds : List D} (oa : pyOk a = true) (ob : pyOkL ds = true) (sa : SeqAt.shaped (py a) = true) (sb : SeqAt.shaped (.tuple (pyL ds)) = true) (h : k (.bl ((pyL ds).any fun z => PyData.eqv z (py a))) B) : Ro K E e (rInT K) a (.tup ds) B k := fun x y H G Q s r1 r2 _ q =>
  ⟨_, _, Rep.dp s r1 oa, Rep.dp (d := .tup ds) s r2 ob, sa, sb, q (.bl _) _ _ _ _ h (Ext.refl s) rfl⟩
theorem ro_inL {a : D} {ds : List D} (oa : pyOk a = true) (ob : pyOkL ds = true) (sa : SeqAt.shaped (py a) = true) (sb : SeqAt.shaped (.list (pyL ds)) = true) (h : k (.bl ((pyL ds).any fun z => PyData.eqv z (py a))) B) : Ro K E e (rInD K) a (.lst ds) B k := fun x y H G Q s r1 r2 _ q =>
  ⟨_, _, Rep.dp s r1 oa, Rep.dp (d := .lst ds) s r2 ob, sa, sb, q (.bl _) _ _ _ _ h (Ext.refl s) rfl⟩
end
end AW

set_option linter.all false
set_option maxRecDepth 100000
set_option maxHeartbeats 4000000
namespace AW
open PySem PySem.Spec PyProof.Rows L2
variable [Tbs]
/-- tables at unlike places -/
theorem tab_uniq {l : List (Addr × Str)} (h : (l.map Prod.fst).Nodup) {a : Addr} {q : Str} (hm : (a, q) ∈ l) : ∀ p ∈ l, p.1 = a → p.2 = q := by
  induction l with
  | nil => cases hm
  | cons x r ih =>
    rw [List.map_cons, List.nodup_cons] at h
    intro p hp e
    rcases List.mem_cons.mp hp with rfl | hp
    · rcases List.mem_cons.mp hm with z | hm
      · rw [← z]
      · exact absurd (List.mem_map.mpr ⟨_, hm, e.symm⟩) h.1
    · rcases List.mem_cons.mp hm with z | hm
      · subst z
        exact absurd (show (a, q).fst ∈ List.map Prod.fst r from List.mem_map.mpr ⟨p, (by assumption), e⟩) h.1
      · exact ih h.2 hm p hp e
theorem Wt.imp {K : PySem.W.Frag} {E : XK} {e : EW} {c : TT} {ρ : List (Option D)} {B : Int} {k k' : Bool → Int → Prop} (h : Wt K E e c ρ B k) (f : ∀ b B', k b B' → k' b B') : Wt K E e c ρ B k' :=
  fun σ H G Q s en x q => h σ H G Q s en x fun b B' G' H' hk => q b B' G' H' (f b B' hk)
/-- blocks of a compound statement -/
def ifB : Stmt → List Stmt
  | .If _ b _ _ => b
  | _ => []
def ifO : Stmt → List Stmt
  | .If _ _ o _ => o
  | _ => []
def forB : Stmt → List Stmt
  | .For _ _ b _ _ => b
  | _ => []
end AW

set_option linter.all false
set_option maxRecDepth 100000
set_option maxHeartbeats 4000000
namespace AW
open PySem PySem.Spec PyProof.Rows L2 RZ
variable [Tbs]
/-! zip in comprehensions and loops, tuple(..), pairs compared, lists that are owned for a while -/
section
abbrev ItzG (Sq : Hp → Addr → List V → Prop) (a b : Addr) : It :=
  ⟨fun i H => ∃ (xs ys : List V) (x y : V), Sq H a xs ∧ Sq H b ys ∧ xs[i]? = some x ∧ ys[i]? = some y,
    fun i H v H' => ∃ T x y, v = .ref T ∧ H T = none ∧ H' = upd H T (.tup [x, y]) ∧ (∀ xs, Sq H a xs → xs[i]? = some x) ∧ ∀ ys, Sq H b ys → ys[i]? = some y,
    fun i H => ∃ xs ys : List V, Sq H a xs ∧ Sq H b ys ∧ (xs.length ≤ i ∨ ys.length ≤ i)⟩
theorem lc_zip {Sq : Hp → Addr → List V → Prop} {a b : Addr} {xs ys : List V} (hl : xs.length = ys.length) {g : TG} {tt : TT} {te : TE} {vs : List Nat} {σ : L2.St} {H1 : Hp} {D : Addr} {Qd : Hp → Prop} (Pv : Nat → Hp → Prop) (h0 : Pv 0 (upd H1 D (.lst []))) (hq : ∀ i H, i ≤ xs.length → Pv i H → Sq H a xs ∧ Sq H b ys)
    (hs : ∀ i x y T H, xs[i]? = some x → ys[i]? = some y → Pv i H → H T = none → g (.ref T) (wipe σ vs) (upd H T (.tup [x, y])) fun σ2 H2 => wipe σ2 vs = wipe σ vs ∧ tt σ2 H2 fun b H3 =>
      if b = true then te σ2 H3 fun y H4 => ∃ acc, H4 D = some (.lst acc) ∧ acc.length < sizeLine ∧ Pv (i + 1) (upd H4 D (.lst (acc ++ [y]))) else Pv (i + 1) H3) (hd : ∀ H, Pv xs.length H → Qd H) :
    ∃ W : Nat → Nat → Hp → Prop, (∃ m, W 0 m (upd H1 D (.lst []))) ∧ ∀ i m H, W i m H →
      ((ItzG Sq a b).stop i H ∧ Qd H) ∨ ((ItzG Sq a b).go i H ∧ ∃ Nx : Hp → Prop, (∀ H', Nx H' → ∃ m', m' < m ∧ W (i + 1) m' H') ∧ ∀ x H', (ItzG Sq a b).yld i H x H' → g x (wipe σ vs) H' fun σ2 H2 => wipe σ2 vs = wipe σ vs ∧ tt σ2 H2 fun b H3 =>
        if b = true then te σ2 H3 fun y H4 => ∃ acc, H4 D = some (.lst acc) ∧ acc.length < sizeLine ∧ Nx (upd H4 D (.lst (acc ++ [y]))) else Nx H3) := by
  refine ⟨fun i m H => m = xs.length - i ∧ i ≤ xs.length ∧ Pv i H, ⟨xs.length, rfl, Nat.zero_le _, h0⟩, ?_⟩
  rintro i m H ⟨rfl, hi, p⟩
  obtain ⟨qx, qy⟩ := hq i H hi p
  by_cases hlt : i < xs.length
  · have hx : xs[i]? = some xs[i] := List.getElem?_eq_getElem hlt
    have hlt2 : i < ys.length := by omega
    have hy : ys[i]? = some ys[i] := List.getElem?_eq_getElem hlt2
    refine .inr ⟨⟨xs, ys, _, _, qx, qy, hx, hy⟩, Pv (i + 1), fun H' p' => ⟨xs.length - (i + 1), by omega, rfl, hlt, p'⟩, fun v H' y => ?_⟩
    obtain ⟨T, x', y', rfl, hT, rfl, f1, f2⟩ := y
    exact hs i x' y' T H (f1 xs qx) (f2 ys qy) p hT
  · have e : i = xs.length := by omega
    subst e
    exact .inl ⟨⟨xs, ys, qx, qy, Or.inl (Nat.le_refl _)⟩, hd H p⟩
theorem set_two {α : Type} (σ : List α) {i j : Nat} (hij : i ≠ j) (u v w z : α) : ((((((σ.set j z).set i z).set i v).set j w).set j z).set i z) = (σ.set j z).set i z := by
  apply List.ext_getElem?
  intro n
  simp only [List.getElem?_set, List.length_set]
  split <;> split <;> simp_all
variable {K : PySem.W.Frag} {E E' E1 : XK} {e : EW} {ρ : List (Option D)} {B : Int} {k : KD} {κ : KS} {ta tb tl te : TE} {t : TA} {us ts : TS} {pr : Pr} {i j sl : Nat} {ds : List D}
theorem zip_step {f : D → D → D} {xs ys : List D} {n : Nat} {x y : D} (hx : xs[n]? = some x) (hy : ys[n]? = some y) : (List.zipWith f xs ys).take n ++ [f x y] = (List.zipWith f xs ys).take (n + 1) := by
  have hm : (List.zipWith f xs ys)[n]? = some (f x y) := by rw [List.getElem?_zipWith, hx, hy]
  rw [List.take_add_one, hm]
  rfl
theorem lc_zipD {Sq : Hp → Addr → List V → Prop} {a b : Addr} {xs ys : List D} {us ws : List V} {G H G1 H1 : Hp} {B1 : Int} {σ : L2.St} {Q : VK} {f : D → D → D} (hij : i ≠ j) (e1 : Ext G H B G1 H1 B1) (en : EnvR K G1 B1 ρ σ) (q : KOk K k Q G H B)
    (hkeep : ∀ G' H' B', Ext G1 H1 B1 G' H' B' → Sq H' a us ∧ Sq H' b ws) (hr : RepL K G1 B1 xs us) (hw : RepL K G1 B1 ys ws) (hl : xs.length = ys.length) (hz : xs.length < sizeLine)
    (hs : ∀ (n : Nat) (x y : D), xs[n]? = some x → ys[n]? = some y → ∀ k' : KD, k' (f x y) B1 → We K E1 noE te ((((ρ.set j none).set i none).set i (some x)).set j (some y)) B1 k') (hk : k (.lst (List.zipWith f xs ys)) B1) (D : Addr) (nD : H1 D = none) :
    ∃ W : Nat → Nat → Hp → Prop, (∃ m, W 0 m (upd H1 D (.lst []))) ∧ ∀ n m H, W n m H →
      ((ItzG Sq a b).stop n H ∧ Q (.ref D) H) ∨ ((ItzG Sq a b).go n H ∧ ∃ Nx : Hp → Prop, (∀ H', Nx H' → ∃ m', m' < m ∧ W (n + 1) m' H') ∧ ∀ x H', (ItzG Sq a b).yld n H x H' → gTup K 2 (gCons (gName i) (gCons (gName j) gNil)) x (wipe σ [i, j]) H' fun σ2 H2 => wipe σ2 [i, j] = wipe σ [i, j] ∧ tYes σ2 H2 fun b H3 =>
        if b = true then te σ2 H3 fun y H4 => ∃ acc, H4 D = some (.lst acc) ∧ acc.length < sizeLine ∧ Nx (upd H4 D (.lst (acc ++ [y]))) else Nx H3) := by
  have hul : us.length = ws.length := by rw [← hr.length, ← hw.length]; exact hl
  refine lc_zip (Sq := Sq) (xs := us) (ys := ws) hul (fun n H' => LcOk K (fun out B => out = (List.zipWith f xs ys).take n ∧ B = B1) D G1 H1 B1 H') (lc_start e1.sub nD ⟨by simp, rfl⟩) (fun n H' _ z => ?_) ?_ ?_
  · obtain ⟨out, B', G', acc, hI, e2, gL, hL, hr2⟩ := z
    exact hkeep G' H' B' e2
  · intro n v w T H' hv hw2 hP hT
    obtain ⟨x, hx, rx⟩ := hr.get' hv
    obtain ⟨y, hy, ry⟩ := hw.get' hw2
    obtain ⟨out, B', G', acc, ⟨eo, eB⟩, e2, gL, hL, hr2⟩ := hP
    subst eB
    refine ⟨T, [v, w], rfl, SqT.of upd_same, rfl, v, [w], rfl, w, [], rfl, rfl, ?_, ?_⟩
    · show ((((((σ.set j none).set i none).set i (some v)).set j (some w)).set j none).set i none) = (σ.set j none).set i none
      exact set_two σ hij (some v) (some v) (some w) none
    · have hTD : D ≠ T := ne_of_none hL hT
      have e3 : Ext G' H' B' G' (upd H' T (.tup [v, w])) B' := Ext.hid e2.sub hT
      have e23 := e2.trans e3
      have en2 : EnvR K G' B' ((((ρ.set j none).set i none).set i (some x)).set j (some y)) ((((σ.set j none).set i none).set i (some v)).set j (some w)) := EnvR.set (ry.mono e2.le) j (EnvR.set (rx.mono e2.le) i (EnvR.wipe1 i (EnvR.wipe1 j (en.mono e2.le))))
      refine hs n x y hx hy (fun d B2 => d = f x y ∧ B2 = B') ⟨rfl, rfl⟩ _ _ G' _ e3.sub en2 XOk.no fun d u B4 G4 H4 ⟨ed, eB⟩ e4 r4 => ?_
      subst ed eB
      have hL2 : upd H' T (.tup [v, w]) D = some (.lst acc) := by rw [upd_ne hTD]; exact hL
      obtain ⟨z1, z2⟩ := e4.fr D _ hL2 gL ⟨(fun _ z => nomatch z), fun _ z => nomatch z⟩
      have hlen : acc.length < sizeLine := by
        rw [← hr2.length, eo, List.length_take, List.length_zipWith]
        omega
      refine ⟨acc, z1, hlen, out ++ [f x y], B4, G4, acc ++ [u], ⟨by rw [eo]; exact zip_step hx hy, rfl⟩, ?_, z2, upd_same, (hr2.mono e4.le).append ⟨u, [], rfl, r4, rfl⟩⟩
      have eA := e23.trans e4
      refine ⟨eA.le, fun a o z => ?_, fun a o z n t => ?_⟩
      · have : a ≠ D := fun q => by rw [q, z2] at z; cases z
        rw [upd_ne this]; exact eA.sub _ _ z
      · have : a ≠ D := ne_of_none z nD
        rw [upd_ne this]
        exact eA.fr _ _ z n t
  · intro H' hz2
    refine lc_end e1 nD hz2 (fun out B' hI => ?_) q
    obtain ⟨eo, eB⟩ := hI
    subst eB
    have : (List.zipWith f xs ys).take us.length = List.zipWith f xs ys := List.take_of_length_le (by rw [List.length_zipWith, ← hr.length]; omega)
    rw [eo, this]
    exact hk
/-- [f(x, y) for x, y in zip(tuple, tuple)] -/
theorem we_lc_zipT (hij : i ≠ j) (h : Wa K E e t ρ B fun as B1 => ∃ xs ys : List D, as = [.tup xs, .tup ys] ∧ xs.length = ys.length ∧ xs.length < sizeLine ∧ ∃ f : D → D → D, (∀ (n : Nat) (x y : D), xs[n]? = some x → ys[n]? = some y → ∀ k' : KD, k' (f x y) B1 → We K E1 noE te ((((ρ.set j none).set i none).set i (some x)).set j (some y)) B1 k') ∧ k (.lst (List.zipWith f xs ys)) B1) :
    We K E e (tLc (iZipA K t) (gTup K 2 (gCons (gName i) (gCons (gName j) gNil))) tYes te [i, j]) ρ B k := fun σ H G Q s en x q =>
  h σ H G _ s en x fun as vs B1 G1 H1 ⟨xs, ys, ed, hl, hz, f, hs, hk⟩ e1 r1 => by
    subst ed
    obtain ⟨_, _, rfl, ⟨a, us, rfl, ha, hr⟩, _, _, rfl, ⟨b, ws, rfl, hb, hw⟩, rfl⟩ := r1
    have kp : ∀ G' H' B', Ext G1 H1 B1 G' H' B' → SqT K H' a us ∧ SqT K H' b ws := fun G' H' B' e2 => ⟨(Le.of_sub (B := B) (B' := B) e2.sub (Int.le_refl _)).seqT (e2.le.seqT ha), (Le.of_sub (B := B) (B' := B) e2.sub (Int.le_refl _)).seqT (e2.le.seqT hb)⟩
    obtain ⟨k1, k2⟩ := kp _ _ _ (Ext.refl e1.sub)
    exact ⟨a, b, us, ws, rfl, .inr ⟨k1, k2, fun D nD => lc_zipD (Sq := SqT K) hij e1 (en.mono e1.le) q kp hr hw hl hz hs hk D nD⟩⟩
theorem we_lc_zipL (hij : i ≠ j) (h : Wa K E e t ρ B fun as B1 => ∃ xs ys : List D, as = [.lst xs, .lst ys] ∧ xs.length = ys.length ∧ xs.length < sizeLine ∧ ∃ f : D → D → D, (∀ (n : Nat) (x y : D), xs[n]? = some x → ys[n]? = some y → ∀ k' : KD, k' (f x y) B1 → We K E1 noE te ((((ρ.set j none).set i none).set i (some x)).set j (some y)) B1 k') ∧ k (.lst (List.zipWith f xs ys)) B1) :
    We K E e (tLc (iZipA K t) (gTup K 2 (gCons (gName i) (gCons (gName j) gNil))) tYes te [i, j]) ρ B k := fun σ H G Q s en x q =>
  h σ H G _ s en x fun as vs B1 G1 H1 ⟨xs, ys, ed, hl, hz, f, hs, hk⟩ e1 r1 => by
    subst ed
    obtain ⟨_, _, rfl, ⟨a, us, rfl, ha, hr⟩, _, _, rfl, ⟨b, ws, rfl, hb, hw⟩, rfl⟩ := r1
    have kp : ∀ G' H' B', Ext G1 H1 B1 G' H' B' → SqL K H' a us ∧ SqL K H' b ws := fun G' H' B' e2 => ⟨SqL.of (e2.sub _ _ (e2.le.keep _ _ ha nopen_lst)), SqL.of (e2.sub _ _ (e2.le.keep _ _ hb nopen_lst))⟩
    obtain ⟨k1, k2⟩ := kp _ _ _ (Ext.refl e1.sub)
    exact ⟨a, b, us, ws, rfl, .inl ⟨k1, k2, fun D nD => lc_zipD (Sq := SqL K) hij e1 (en.mono e1.le) q kp hr hw hl hz hs hk D nD⟩⟩
/-- tuple(list) -/
theorem we_tupleL (h : Wa K E e t ρ B fun ds B1 => ∃ xs : List D, ds = [.lst xs] ∧ k (.tup xs) B1) :
    We K E e (tCB (fun xs H Q => ∃ p ys, xs = [.ref p] ∧ ((SqL K H p ys ∧ ∀ l, H l = none → Q (.ref l) (upd H l (.tup ys))) ∨ (SqT K H p ys ∧ Q (.ref p) H))) t) ρ B k :=
  we_cb fun σ H G Q s en x q => h σ H G Q s en x fun ds vs B1 G1 H1 ⟨xs, ed, h1⟩ e1 r1 => q ds vs B1 G1 H1 (fun ws H2 G2 Q2 s2 r2 q2 => by
    subst ed
    obtain ⟨v, _, rfl, ⟨a, us, rfl, ha, hr⟩, rfl⟩ := r2
    exact ⟨a, us, rfl, .inl ⟨SqL.of (s2 _ _ ha), fun l nl => q2 _ _ _ _ _ h1 (Ext.new s2 nl) ⟨l, us, rfl, SqT.of upd_same, hr.mono (Ext.new (B := B1) s2 nl).le⟩⟩⟩) e1 r1
theorem RepL.ints_inv {G : Hp} : ∀ {ns : List Int} {vs : List V}, RepL K G B (ns.map D.int) vs → vs = ns.map V.int
  | [], _, h => h
  | n :: ns, _, ⟨v, r, e, h, hr⟩ => by rw [e, show v = _ from h, RepL.ints_inv (ns := ns) hr]; rfl
theorem ro_ltT {ns ms : List Int} (h : k (.bl (HT.lexLt ns ms)) B) : Ro K E e (rLtT K) (.tup (ns.map D.int)) (.tup (ms.map D.int)) B k := fun x y H G Q s r1 r2 _ q => by
  obtain ⟨a, vs, rfl, ha, hr⟩ := r1
  obtain ⟨b, ws, rfl, hb, hw⟩ := r2
  rw [RepL.ints_inv hr] at ha
  rw [RepL.ints_inv hw] at hb
  have le : Le G B H B := Le.of_sub s (Int.le_refl _)
  exact ⟨a, b, ns, ms, rfl, rfl, le.seqT ha, le.seqT hb, q _ _ _ _ _ h (Ext.refl s) rfl⟩
/-! ### a list owned for a while -/
theorem wb_lcRange (hi : i < ρ.length) (h : Wa K E e t ρ B fun as B1 => ∃ n : Int, as = [.int n] ∧ -(2 ^ 62) ≤ n ∧ n < 2 ^ 62 ∧ n.toNat < sizeLine ∧ ∃ I : Nat → List D → Int → Prop, I 0 [] B1 ∧
    (∀ (m : Nat) out B', m < n.toNat → I m out B' → We K E1 noE te ((ρ.set sl none).set sl (some (.int (0 + m)))) B' fun y B4 => I (m + 1) (out ++ [y]) B4) ∧
    ∀ out B', I n.toNat out B' → Wsb K E e us (ρ.set i none) B' i out κ) :
    Ws K E e (tSeq (tAsg (tLc (iRng1 t) (gName sl) tYes te [sl]) (gName i)) us) ρ B κ := fun σ H G Dn s en x q =>
  h σ H G _ s en x fun as vs B1 G1 H1 ⟨n, ed, j0, j1, jl, I, i0, hs, hd⟩ e1 r1 => by
    subst ed
    obtain ⟨v, _, rfl, rv, rfl⟩ := r1
    rw [show v = _ from rv]
    refine ⟨n, rfl, j0, j1, fun L nL => ?_⟩
    refine lc_range (fun m H' => LcOk K (fun out B => out.length ≤ m ∧ I m out B) L G1 H1 B1 H') (lc_start e1.sub nL ⟨Nat.le_refl _, i0⟩) ?_ ?_
    · intro m H' hi hz
      exact lc_step nL e1.sub (en.mono e1.le) hz (by omega) (d := .int (0 + m)) rfl (fun out B' hI => wt_yes ⟨fun _ => hs m out B' hi hI, fun z => nomatch z⟩)
    · intro H' hz
      obtain ⟨out, B', G', acc, hI, e2, gL, hL, hr⟩ := hz
      have en1 : EnvR K G' B' (ρ.set i none) (σ.set i (some (.ref L))) := EnvR.weakAt i (en.mono (e1.trans e2).le)
      refine hd out B' hI.2 _ H' G' Dn G1 H1 B1 L acc e2.sub en1 ?_ nL gL hL hr e2 (x.ext e1) (q.ext e1)
      rw [List.getElem?_set_self (by rw [← en.len]; exact hi)]
theorem wb_if {c : TT} (h : Wt K E e c ρ B fun b B1 => (b = true → Wsb K E e (tSeq ts us) ρ B1 i ds κ) ∧ (b = false → Wsb K E e us ρ B1 i ds κ)) : Wsb K E e (tSeq (tIfS c ts tNext) us) ρ B i ds κ := fun σ H G Dn G0 H0 B0 p vs s en hp np gp hL hr ex x q => by
  refine h σ H G _ s en (x.ext ex) fun b B1 G1 H1 hb e1 => ?_
  obtain ⟨z1, z2⟩ := e1.fr p _ hL gp ⟨(fun _ z => nomatch z), fun _ z => nomatch z⟩
  cases b with
  | true => exact hb.1 rfl σ H1 G1 Dn G0 H0 B0 p vs e1.sub (en.mono e1.le) hp np z2 z1 (hr.mono e1.le) (ex.trans e1) x q
  | false => exact hb.2 rfl σ H1 G1 Dn G0 H0 B0 p vs e1.sub (en.mono e1.le) hp np z2 z1 (hr.mono e1.le) (ex.trans e1) x q
/-- y = e, no look at the list -/
theorem wb_set (hij : j ≠ i) (h : We K E e ta ρ B fun d B1 => Wsb K E e us (ρ.set j (some d)) B1 i ds κ) : Wsb K E e (tSeq (tAsg ta (gName j)) us) ρ B i ds κ := fun σ H G Dn G0 H0 B0 p vs s en hp np gp hL hr ex x q => by
  refine h σ H G _ s en (x.ext ex) fun d v B1 G1 H1 hb e1 rv => ?_
  obtain ⟨z1, z2⟩ := e1.fr p _ hL gp ⟨(fun _ z => nomatch z), fun _ z => nomatch z⟩
  exact hb _ H1 G1 Dn G0 H0 B0 p vs e1.sub (EnvR.set rv j (en.mono e1.le)) (by rw [List.getElem?_set_ne hij]; exact hp) np z2 z1 (hr.mono e1.le) (ex.trans e1) x q
theorem wb_par {j l : Nat} (hij : j ≠ i) (hil : l ≠ i) (h : Wa K E e t ρ B fun as B1 => ∃ a b, as = [a, b] ∧ Wsb K E e us ((ρ.set j (some a)).set l (some b)) B1 i ds κ) : Wsb K E e (tSeq (tPar j l t) us) ρ B i ds κ := fun σ H G Dn G0 H0 B0 p vs s en hp np gp hL hr ex x q => by
  refine h σ H G _ s en (x.ext ex) fun as ws B1 G1 H1 ⟨a, b, ea, hb⟩ e1 rv => ?_
  subst ea
  obtain ⟨v, _, rfl, ra, u, _, rfl, rb, rfl⟩ := rv
  obtain ⟨z1, z2⟩ := e1.fr p _ hL gp ⟨(fun _ z => nomatch z), fun _ z => nomatch z⟩
  exact ⟨v, u, rfl, hb _ H1 G1 Dn G0 H0 B0 p vs e1.sub (EnvR.set rb l (EnvR.set ra j (en.mono e1.le))) (by rw [List.getElem?_set_ne hil, List.getElem?_set_ne hij]; exact hp) np z2 z1 (hr.mono e1.le) (ex.trans e1) x q⟩
/-- y = e with a look at the list; the value is a list of integers of another length -/
theorem wb_setR (hij : j ≠ i) (hi : i < ρ.length) (h : We K E e ta (ρ.set i (some (.lst ds))) B fun d B1 => ∃ ns : List Int, d = .lst (ns.map D.int) ∧ ns.length ≠ ds.length ∧ Wsb K E e us (ρ.set j (some d)) B1 i ds κ) : Wsb K E e (tSeq (tAsg ta (gName j)) us) ρ B i ds κ := fun σ H G Dn G0 H0 B0 p vs s en hp np gp hL hr ex x q => by
  have le : Le G B (upd G p (.lst vs)) B := Le.of_sub (fun a o z => by rw [upd_ne (ne_of_none z gp)]; exact z) (Int.le_refl _)
  have sp : Sub (upd G p (.lst vs)) H := fun a o z => by
    by_cases w : a = p
    · subst w; rw [upd_same] at z; cases z; exact hL
    · rw [upd_ne w] at z; exact s _ _ z
  have e0 : Ext G0 H0 B0 (upd G p (.lst vs)) H B := ⟨ex.le.trans le, sp, fun a o z n t => by
    rw [upd_ne (ne_of_none z np)]
    exact ex.fr _ _ z n t⟩
  have en1 := EnvR.set (d := .lst ds) (v := .ref p) ⟨p, vs, rfl, upd_same, hr.mono le⟩ i (en.mono le)
  have es : σ.set i (some (V.ref p)) = σ := by
    apply List.ext_getElem?
    intro m
    rw [List.getElem?_set]
    by_cases hj : i = m
    · subst hj
      rw [if_pos rfl, hp]
      split
      · rfl
      · have hl := en.len
        omega
    · rw [if_neg hj]
  rw [es] at en1
  refine h σ H _ _ sp en1 (x.ext e0) fun d v B1 G1 H1 ⟨ns, ed, hn, hb⟩ e1 rv => ?_
  subst ed
  obtain ⟨a, us2, rfl, ga, hra⟩ := rv
  have gp1 : G1 p = some (.lst vs) := e1.le.keep p _ upd_same nopen_lst
  have hap : a ≠ p := fun z => by
    subst z
    rw [gp1] at ga
    injection ga with ga
    injection ga with ga
    have l1 := hra.length
    have l2 := hr.length
    rw [List.length_map] at l1
    rw [ga] at l2
    omega
  let G2 : Hp := fun b => if b = p then none else G1 b
  have g2 : ∀ b, b ≠ p → G2 b = G1 b := fun b hb => if_neg hb
  have g2p : G2 p = none := if_pos rfl
  have s2 : Sub G2 H1 := fun b o z => by
    by_cases w : b = p
    · rw [w, g2p] at z; cases z
    · rw [g2 b w] at z; exact e1.sub _ _ z
  have le2 : Le G B G2 B1 := by
    refine ⟨e1.le.b, fun b o z n => ?_, fun b k l c m r z => ?_, fun z p' hp' => ?_⟩
    · have w : b ≠ p := ne_of_none z gp
      rw [g2 b w]
      exact e1.le.keep b o (by rw [upd_ne w]; exact z) n
    · have w : b ≠ p := ne_of_none z gp
      rw [g2 b w]
      exact e1.le.pen b k l c m r (by rw [upd_ne w]; exact z)
    · obtain ⟨ps, t1, t2, t3⟩ := e1.le.tb (le.tb z) p' hp'
      refine ⟨ps, ?_, t2, fun pos cv hc => ?_⟩
      · rw [g2 _ fun w => by rw [w, gp1] at t1; cases t1]; exact t1
      · obtain ⟨c, y1, y2⟩ := t3 pos cv hc
        refine ⟨c, y1, ?_⟩
        rw [g2 _ fun w => by rw [w, gp1] at y2; unfold LamX.CodeO at y2; cases y2]; exact y2
  have e2 : Ext G0 H0 B0 G2 H1 B1 := ⟨ex.le.trans le2, s2, fun b o z n t => by
    have eA := e0.trans e1
    obtain ⟨y1, y2⟩ := eA.fr b o z n t
    refine ⟨y1, ?_⟩
    rw [g2 b (ne_of_none z np)]
    exact y2⟩
  have rv2 : Rep K G2 B1 (.lst (ns.map D.int)) (.ref a) := ⟨a, us2, rfl, by rw [g2 a hap]; exact ga, by rw [RepL.ints_inv hra]; exact RepL.ints ns⟩
  exact hb _ H1 G2 Dn G0 H0 B0 p vs s2 (EnvR.set rv2 j (en.mono le2)) (by rw [List.getElem?_set_ne hij]; exact hp) np g2p (e1.sub _ _ gp1) (hr.mono le2) e2 x q
/-- x[n] = e, no look at the list in e -/
theorem wb_item {n : Nat} {c : Int} (hc : c = n) (hn : n < ds.length) (h : We K E e ta ρ B fun d B1 => Wsb K E e us ρ B1 i (ds.set n d) κ) : Wsb K E e (tSeq (tAsg ta (gSub (tVar i) (tC (.int c)) rSetL)) us) ρ B i ds κ := fun σ H G Dn G0 H0 B0 p vs s en hp np gp hL hr ex x q => by
  subst hc
  refine h σ H G _ s en (x.ext ex) fun d v B1 G1 H1 hb e1 rv => ?_
  obtain ⟨z1, z2⟩ := e1.fr p _ hL gp ⟨(fun _ z => nomatch z), fun _ z => nomatch z⟩
  have hvl : ds.length = vs.length := hr.length
  have hix : ixN vs.length (n : Int) = some n := by
    unfold ixN
    rw [if_pos (by omega), if_pos (by omega), Int.toNat_natCast]
  refine ⟨.ref p, hp, p, vs, (n : Int), n, rfl, rfl, z1, hix, ?_⟩
  have hset : RepL K G1 B1 (ds.set n d) (vs.set n v) := by
    have z : ∀ (ds : List D) (vs : List V) (n : Nat), RepL K G1 B1 ds vs → RepL K G1 B1 (ds.set n d) (vs.set n v) := by
      intro ds
      induction ds with
      | nil => intro vs n h; rw [show vs = [] from h]; exact rfl
      | cons d0 r ih =>
        intro vs n h
        obtain ⟨v0, w, rfl, h0, h1⟩ := h
        cases n with
        | zero => exact ⟨v, w, rfl, rv, h1⟩
        | succ n => exact ⟨v0, w.set n v, rfl, h0, ih w n h1⟩
    exact z ds vs n (hr.mono e1.le)
  have eA := ex.trans e1
  refine hb σ _ G1 Dn G0 H0 B0 p _ (fun a o z => ?_) (en.mono e1.le) hp np z2 upd_same hset ⟨eA.le, fun a o z => ?_, fun a o z n t => ?_⟩ x q
  · rw [upd_ne (ne_of_none z z2)]; exact e1.sub _ _ z
  · rw [upd_ne (ne_of_none z z2)]; exact e1.sub _ _ z
  · rw [upd_ne (ne_of_none z np)]; exact eA.fr _ _ z n t
end
end AW

set_option linter.all false
set_option maxRecDepth 100000
set_option maxHeartbeats 4000000
namespace AW
open PySem PySem.Spec PyProof.Rows L2 RZ
variable [Tbs]
/-! statements while a list is owned (Wso); zip in a for; min of tuples; a list unpacked; isinstance(.., list) -/
section
/-- ends of a statement, the owned list's items told -/
structure KO where
  nx : List (Option D) → List D → Int → Prop := fun _ _ _ => False
  rt : KD
  bk : List (Option D) → List D → Int → Prop := fun _ _ _ => False
  ct : List (Option D) → List D → Int → Prop := fun _ _ _ => False
def OOk (K : PySem.W.Frag) (k : List (Option D) → List D → Int → Prop) (Q : L2.St → Hp → Prop) (i : Nat) (p : Addr) (G0 H0 : Hp) (B0 : Int) : Prop := ∀ ρ ds σ B G H vs, k ρ ds B → Ext G0 H0 B0 G H B → EnvR K G B ρ σ → σ[i]? = some (some (.ref p)) → G p = none → H p = some (.lst vs) → RepL K G B ds vs → Q σ H
structure OEnds (K : PySem.W.Frag) (κ : KO) (Dn : Ends) (i : Nat) (p : Addr) (G0 H0 : Hp) (B0 : Int) : Prop where
  nx : OOk K κ.nx Dn.nx i p G0 H0 B0
  rt : KOk K κ.rt Dn.rt G0 H0 B0
  bk : OOk K κ.bk Dn.bk i p G0 H0 B0
  ct : OOk K κ.ct Dn.ct i p G0 H0 B0
/-- a statement while the list at slot i is owned: its items are ds -/
def Wso (K : PySem.W.Frag) (E : XK) (e : EW) (t : TS) (ρ : List (Option D)) (B : Int) (i : Nat) (ds : List D) (κ : KO) : Prop :=
  ∀ σ H G Dn G0 H0 B0 p vs, Sub G H → EnvR K G B ρ σ → σ[i]? = some (some (.ref p)) → H0 p = none → G p = none → H p = some (.lst vs) → RepL K G B ds vs → Ext G0 H0 B0 G H B → XOk K E e G0 H0 B0 → OEnds K κ Dn i p G0 H0 B0 → t Dn σ H
variable {K : PySem.W.Frag} {E E' E1 : XK} {e : EW} {ρ : List (Option D)} {B : Int} {k : KD} {κ : KS} {κo : KO} {ta tb tl te : TE} {t : TA} {s us ts tbody : TS} {pr : Pr} {i j sl : Nat} {ds : List D} {g : TG}
theorem wb_wso (h : Wso K E e s ρ B i ds { nx := fun ρ' ds' B' => Wsb K E e us ρ' B' i ds' κ, rt := κ.rt }) : Wsb K E e (tSeq s us) ρ B i ds κ := fun σ H G Dn G0 H0 B0 p vs sb en hp np gp hL hr ex x q =>
  h σ H G { Dn with nx := us Dn } G0 H0 B0 p vs sb en hp np gp hL hr ex x ⟨fun ρ' ds' σ' B' G' H' vs' hb ex' en' hp' gp' hL' hr' => hb σ' H' G' Dn G0 H0 B0 p vs' ex'.sub en' hp' np gp' hL' hr' ex' x q, q.rt, fun _ _ _ _ _ _ _ z => z.elim, fun _ _ _ _ _ _ _ z => z.elim⟩
theorem wo_seq (h : Wso K E e s ρ B i ds { κo with nx := fun ρ' ds' B' => Wso K E e us ρ' B' i ds' κo }) : Wso K E e (tSeq s us) ρ B i ds κo := fun σ H G Dn G0 H0 B0 p vs sb en hp np gp hL hr ex x q =>
  h σ H G { Dn with nx := us Dn } G0 H0 B0 p vs sb en hp np gp hL hr ex x ⟨fun ρ' ds' σ' B' G' H' vs' hb ex' en' hp' gp' hL' hr' => hb σ' H' G' Dn G0 H0 B0 p vs' ex'.sub en' hp' np gp' hL' hr' ex' x q, q.rt, q.bk, q.ct⟩
theorem wo_next (h : κo.nx ρ ds B) : Wso K E e tNext ρ B i ds κo := fun σ H G Dn G0 H0 B0 p vs sb en hp np gp hL hr ex x q => q.nx _ _ _ _ _ _ _ h ex en hp gp hL hr
theorem wo_app (h : We K E e ta ρ B fun d B1 => ds.length < sizeLine ∧ κo.nx ρ (ds ++ [d]) B1) : Wso K E e (tDrop (tBM K "list" rAppend (tVar i) (tCons ta tNil))) ρ B i ds κo := fun σ H G Dn G0 H0 B0 p vs s en hp np gp hL hr ex x q => by
  refine ⟨.ref p, hp, ?_, ?_⟩
  · exact .inl ⟨rfl, vs, SqL.of hL⟩
  · refine h σ H G _ s en (x.ext ex) fun d v B1 G1 H1 ⟨hl, h1⟩ e1 r1 => ?_
    obtain ⟨z1, z2⟩ := e1.fr p _ hL gp ⟨(fun _ z => nomatch z), fun _ z => nomatch z⟩
    refine ⟨p, vs, v, rfl, rfl, z1, by rw [← hr.length]; exact hl, ?_⟩
    have eA := ex.trans e1
    refine q.nx _ _ σ B1 G1 (upd H1 p (.lst (vs ++ [v]))) (vs ++ [v]) h1 ⟨eA.le, fun a o z => ?_, fun a o z n t => ?_⟩ (en.mono e1.le) hp z2 upd_same ((hr.mono e1.le).append ⟨v, [], rfl, r1, rfl⟩)
    · rw [upd_ne (ne_of_none z z2)]; exact e1.sub _ _ z
    · rw [upd_ne (ne_of_none z np)]; exact eA.fr _ _ z n t
theorem set_id {α : Type} {σ : List α} {i : Nat} {a : α} (h : σ[i]? = some a) : σ.set i a = σ := by
  apply List.ext_getElem?
  intro m
  rw [List.getElem?_set]
  by_cases hj : i = m
  · subst hj
    rw [if_pos rfl, h]
    split
    · rfl
    · have := (List.getElem?_eq_some_iff.mp h).1
      omega
  · rw [if_neg hj]
theorem env_own {G : Hp} {σ : L2.St} {p : Addr} (en : EnvR K G B ρ σ) (hp : σ[i]? = some (some (.ref p))) : EnvR K G B (ρ.set i (some (.val (.ref p)))) σ := by
  have := EnvR.set (d := .val (.ref p)) (v := .ref p) rfl i en
  rw [set_id hp] at this
  exact this
theorem env_lose {G : Hp} {σ : L2.St} (en : EnvR K G B ρ σ) {v : V} (hp : σ[i]? = some (some v)) : EnvR K G B (ρ.set i none) σ := by
  have := EnvR.weakAt (x := some v) i en
  rw [set_id hp] at this
  exact this
theorem env_ref {G : Hp} {σ : L2.St} {p : Addr} (en : EnvR K G B ρ σ) (h : ρ[i]? = some (some (.val (.ref p)))) : σ[i]? = some (some (.ref p)) := by
  obtain ⟨v, h1, r⟩ := en.get h
  rw [show v = _ from r] at h1
  exact h1
/-- a statement that does not look at the list -/
theorem wo_ws (h : ∀ p : Addr, Ws K E e s (ρ.set i (some (.val (.ref p)))) B { nx := fun ρ' B' => ρ'[i]? = some (some (.val (.ref p))) ∧ κo.nx (ρ'.set i none) ds B', rt := κo.rt, bk := fun ρ' B' => ρ'[i]? = some (some (.val (.ref p))) ∧ κo.bk (ρ'.set i none) ds B', ct := fun ρ' B' => ρ'[i]? = some (some (.val (.ref p))) ∧ κo.ct (ρ'.set i none) ds B' }) : Wso K E e s ρ B i ds κo := fun σ H G Dn G0 H0 B0 p vs sb en hp np gp hL hr ex x q => by
  have go : ∀ {k : List (Option D) → List D → Int → Prop} {Q : L2.St → Hp → Prop}, OOk K k Q i p G0 H0 B0 → NOk K (fun ρ' B' => ρ'[i]? = some (some (.val (.ref p))) ∧ k (ρ'.set i none) ds B') Q G H B := fun hk ρ' σ' B' G' H' ⟨h1, h2⟩ e1 en1 => by
    have hp' := env_ref en1 h1
    obtain ⟨z1, z2⟩ := e1.fr p _ hL gp ⟨(fun _ z => nomatch z), fun _ z => nomatch z⟩
    exact hk _ _ _ _ _ _ vs h2 (ex.trans e1) (env_lose en1 hp') hp' z2 z1 (hr.mono e1.le)
  exact h p σ H G Dn sb (env_own en hp) (x.ext ex) ⟨go q.nx, q.rt.ext ex, go q.bk, go q.ct⟩
theorem wo_if {c : TT} (h : Wt K E e c ρ B fun b B1 => (b = true → Wso K E e ts ρ B1 i ds κo) ∧ (b = false → Wso K E e us ρ B1 i ds κo)) : Wso K E e (tIfS c ts us) ρ B i ds κo := fun σ H G Dn G0 H0 B0 p vs s en hp np gp hL hr ex x q => by
  refine h σ H G _ s en (x.ext ex) fun b B1 G1 H1 hb e1 => ?_
  obtain ⟨z1, z2⟩ := e1.fr p _ hL gp ⟨(fun _ z => nomatch z), fun _ z => nomatch z⟩
  cases b with
  | true => exact hb.1 rfl σ H1 G1 Dn G0 H0 B0 p vs e1.sub (en.mono e1.le) hp np z2 z1 (hr.mono e1.le) (ex.trans e1) x q
  | false => exact hb.2 rfl σ H1 G1 Dn G0 H0 B0 p vs e1.sub (en.mono e1.le) hp np z2 z1 (hr.mono e1.le) (ex.trans e1) x q
/-- one round of a loop: the target, then the body -/
theorem wo_round {x : D} {G1 H1 : Hp} {B1 : Int} {p : Addr} {v : V} {σ' : L2.St} {G' H' : Hp} {B' : Int} {ρ' : List (Option D)} {ds' : List D} {vs' : List V} {Dn : Ends} {N : L2.St → Hp → Prop} {I2 : List (Option D) → List D → Int → Prop}
    (hs : ∀ p : Addr, Wg K g x (ρ'.set i (some (.val (.ref p)))) B' fun ρ2 B2 => ρ2[i]? = some (some (.val (.ref p))) ∧ Wso K E e tbody (ρ2.set i none) B2 i ds' { nx := I2, rt := κo.rt, bk := κo.nx, ct := I2 })
    (np : H1 p = none) (e2 : Ext G1 H1 B1 G' H' B') (en2 : EnvR K G' B' ρ' σ') (hp' : σ'[i]? = some (some (.ref p))) (gp' : G' p = none) (hL' : H' p = some (.lst vs')) (hr' : RepL K G' B' ds' vs') (rv : Rep K G' B' x v) (xo : XOk K E e G1 H1 B1) (q : OEnds K κo Dn i p G1 H1 B1) (hN : OOk K I2 N i p G1 H1 B1) :
    g v σ' H' fun σ2 H2 => tbody { Dn with nx := N, ct := N, bk := Dn.nx } σ2 H2 :=
  hs p v σ' H' G' _ e2.sub (env_own en2 hp') rv fun ρ2 σ2 B2 G2 H2 ⟨h1, h2⟩ e3 en3 => by
    have hp2 := env_ref en3 h1
    obtain ⟨z1, z2⟩ := e3.fr p _ hL' gp' ⟨(fun _ z => nomatch z), fun _ z => nomatch z⟩
    exact h2 σ2 H2 G2 _ G1 H1 B1 p vs' e3.sub (env_lose en3 hp2) hp2 np z2 z1 (hr'.mono e3.le) (e2.trans e3) xo ⟨hN, q.rt, q.nx, hN⟩
def del (H : Hp) (p : Addr) : Hp := fun b => if b = p then none else H b
theorem delD_same {H : Hp} {p : Addr} : del H p p = none := if_pos rfl
theorem delD_ne {H : Hp} {p b : Addr} (h : b ≠ p) : del H p b = H b := if_neg h
theorem Ext.base {G0 H0 G1 H1 : Hp} {B0 B1 : Int} {p : Addr} (ex : Ext G0 H0 B0 G1 H1 B1) (np : H0 p = none) (gp : G1 p = none) : Ext G0 H0 B0 G1 (del H1 p) B1 := ⟨ex.le, fun a o z => by
  rw [delD_ne (ne_of_none z gp)]; exact ex.sub _ _ z, fun a o z n t => by
  rw [delD_ne (ne_of_none z np)]; exact ex.fr _ _ z n t⟩
theorem Ext.back {G1 H1 : Hp} {B1 : Int} {p : Addr} (s : Sub G1 H1) : Ext G1 (del H1 p) B1 G1 H1 B1 := ⟨Le.of_sub (fun _ _ z => z) (Int.le_refl _), s, fun a o z n t => by
  have : a ≠ p := fun q => by rw [q, delD_same] at z; cases z
  rw [delD_ne this] at z
  exact ⟨z, n⟩⟩
theorem OOk.ext {k : List (Option D) → List D → Int → Prop} {Q : L2.St → Hp → Prop} {p : Addr} {G0 H0 G1 H1 : Hp} {B0 B1 : Int} (h : OOk K k Q i p G0 H0 B0) (ex : Ext G0 H0 B0 G1 H1 B1) : OOk K k Q i p G1 H1 B1 := fun ρ ds σ B G H vs hk e2 => h ρ ds σ B G H vs hk (ex.trans e2)
theorem OEnds.ext {p : Addr} {Dn : Ends} {G0 H0 G1 H1 : Hp} {B0 B1 : Int} (h : OEnds K κo Dn i p G0 H0 B0) (ex : Ext G0 H0 B0 G1 H1 B1) : OEnds K κo Dn i p G1 H1 B1 := ⟨h.nx.ext ex, h.rt.ext ex, h.bk.ext ex, h.ct.ext ex⟩
/-- the rounds' state -/
def OSt (K : PySem.W.Frag) (I : List (Option D) → List D → Int → Prop) (i : Nat) (p : Addr) (G1 H1 : Hp) (B1 : Int) (σ' : L2.St) (H' : Hp) : Prop := ∃ ρ' ds' B' G' vs', I ρ' ds' B' ∧ Ext G1 H1 B1 G' H' B' ∧ EnvR K G' B' ρ' σ' ∧ σ'[i]? = some (some (.ref p)) ∧ G' p = none ∧ H' p = some (.lst vs') ∧ RepL K G' B' ds' vs'
theorem OSt.ok {I : List (Option D) → List D → Int → Prop} {p : Addr} {G1 H1 : Hp} {B1 : Int} : OOk K I (OSt K I i p G1 H1 B1) i p G1 H1 B1 := fun ρ ds σ B G H vs hk e2 en hp gp hL hr => ⟨ρ, ds, B, G, vs, hk, e2, en, hp, gp, hL, hr⟩
theorem wo_for_tup (h : We K E e tl ρ B fun d B1 => ∃ xs, d = .tup xs ∧ ∃ I : Nat → List (Option D) → List D → Int → Prop, I 0 ρ ds B1 ∧ (∀ j x ρ' ds' B', xs[j]? = some x → I j ρ' ds' B' → ∀ p : Addr, Wg K g x (ρ'.set i (some (.val (.ref p)))) B' fun ρ2 B2 => ρ2[i]? = some (some (.val (.ref p))) ∧ Wso K E e tbody (ρ2.set i none) B2 i ds' { nx := I (j + 1), rt := κo.rt, bk := κo.nx, ct := I (j + 1) }) ∧ ∀ ρ' ds' B', I xs.length ρ' ds' B' → κo.nx ρ' ds' B') :
    Wso K E e (tFor (iTup K tl) g tbody) ρ B i ds κo := fun σ H G Dn G0 H0 B0 p vs sb en hp np gp hL hr ex x q => by
  refine h σ H G _ sb en (x.ext ex) fun d v B1 G1 H1 ⟨xs, ed, I, i0, hs, hd⟩ e1 r1 => ?_
  subst ed
  obtain ⟨a, ws, rfl, ha, hrw⟩ := r1
  obtain ⟨z1, z2⟩ := e1.fr p _ hL gp ⟨(fun _ z => nomatch z), fun _ z => nomatch z⟩
  have eb := (ex.trans e1).base np z2
  refine ⟨a, rfl, ⟨ws, (Le.of_sub (B := B) (B' := B) e1.sub (Int.le_refl _)).seqT ha⟩, ?_⟩
  refine for_tup (xs := ws) (fun j => OSt K (I j) i p G1 (del H1 p) B1) ⟨ρ, ds, B1, G1, vs, i0, Ext.back e1.sub, en.mono e1.le, hp, z2, z1, hr.mono e1.le⟩ (fun j σ' H' _ ⟨_, _, _, G', _, _, e2, _⟩ => (Le.of_sub (B := B) (B' := B) e2.sub (Int.le_refl _)).seqT (e2.le.seqT ha)) ?_ ?_
  · rintro j y σ' H' hi ⟨ρ', ds', B', G', vs', hI, e2, en2, hp', gp', hL', hr'⟩
    obtain ⟨dx, hdx, rx⟩ := hrw.get' hi
    exact wo_round (hs j dx ρ' ds' B' hdx hI) delD_same e2 en2 hp' gp' hL' hr' (rx.mono e2.le) (x.ext eb) (q.ext eb) OSt.ok
  · rintro σ' H' ⟨ρ', ds', B', G', vs', hI, e2, en2, hp', gp', hL', hr'⟩
    rw [← hrw.length] at hI
    exact q.nx _ _ _ _ _ _ _ (hd _ _ _ hI) (eb.trans e2) en2 hp' gp' hL' hr'
theorem wo_for_list (h : We K E e tl ρ B fun d B1 => ∃ xs, d = .lst xs ∧ ∃ I : Nat → List (Option D) → List D → Int → Prop, I 0 ρ ds B1 ∧ (∀ j x ρ' ds' B', xs[j]? = some x → I j ρ' ds' B' → ∀ p : Addr, Wg K g x (ρ'.set i (some (.val (.ref p)))) B' fun ρ2 B2 => ρ2[i]? = some (some (.val (.ref p))) ∧ Wso K E e tbody (ρ2.set i none) B2 i ds' { nx := I (j + 1), rt := κo.rt, bk := κo.nx, ct := I (j + 1) }) ∧ ∀ ρ' ds' B', I xs.length ρ' ds' B' → κo.nx ρ' ds' B') :
    Wso K E e (tFor (iList K tl) g tbody) ρ B i ds κo := fun σ H G Dn G0 H0 B0 p vs sb en hp np gp hL hr ex x q => by
  refine h σ H G _ sb en (x.ext ex) fun d v B1 G1 H1 ⟨xs, ed, I, i0, hs, hd⟩ e1 r1 => ?_
  subst ed
  obtain ⟨a, ws, rfl, ha, hrw⟩ := r1
  obtain ⟨z1, z2⟩ := e1.fr p _ hL gp ⟨(fun _ z => nomatch z), fun _ z => nomatch z⟩
  have eb := (ex.trans e1).base np z2
  refine ⟨a, rfl, ⟨ws, SqL.of (e1.sub _ _ ha)⟩, ?_⟩
  refine for_list (xs := ws) (fun j => OSt K (I j) i p G1 (del H1 p) B1) ⟨ρ, ds, B1, G1, vs, i0, Ext.back e1.sub, en.mono e1.le, hp, z2, z1, hr.mono e1.le⟩ (fun j σ' H' _ ⟨_, _, _, G', _, _, e2, _⟩ => SqL.of (e2.sub _ _ (e2.le.keep _ _ ha nopen_lst))) ?_ ?_
  · rintro j y σ' H' hi ⟨ρ', ds', B', G', vs', hI, e2, en2, hp', gp', hL', hr'⟩
    obtain ⟨dx, hdx, rx⟩ := hrw.get' hi
    exact wo_round (hs j dx ρ' ds' B' hdx hI) delD_same e2 en2 hp' gp' hL' hr' (rx.mono e2.le) (x.ext eb) (q.ext eb) OSt.ok
  · rintro σ' H' ⟨ρ', ds', B', G', vs', hI, e2, en2, hp', gp', hL', hr'⟩
    rw [← hrw.length] at hI
    exact q.nx _ _ _ _ _ _ _ (hd _ _ _ hI) (eb.trans e2) en2 hp' gp' hL' hr'
theorem wo_for_range1 (h : Wa K E e t ρ B fun as B1 => ∃ n : Int, as = [.int n] ∧ -(2 ^ 62) ≤ n ∧ n < 2 ^ 62 ∧ ∃ I : Nat → List (Option D) → List D → Int → Prop, I 0 ρ ds B1 ∧ (∀ (j : Nat) ρ' ds' B', j < n.toNat → I j ρ' ds' B' → ∀ p : Addr, Wg K g (.int (0 + j)) (ρ'.set i (some (.val (.ref p)))) B' fun ρ2 B2 => ρ2[i]? = some (some (.val (.ref p))) ∧ Wso K E e tbody (ρ2.set i none) B2 i ds' { nx := I (j + 1), rt := κo.rt, bk := κo.nx, ct := I (j + 1) }) ∧ ∀ ρ' ds' B', I n.toNat ρ' ds' B' → κo.nx ρ' ds' B') :
    Wso K E e (tFor (iRng1 t) g tbody) ρ B i ds κo := fun σ H G Dn G0 H0 B0 p vs sb en hp np gp hL hr ex x q => by
  refine h σ H G _ sb en (x.ext ex) fun as ws B1 G1 H1 ⟨n, ed, j0, j1, I, i0, hs, hd⟩ e1 r1 => ?_
  subst ed
  obtain ⟨v, _, rfl, rv, rfl⟩ := r1
  rw [show v = _ from rv]
  obtain ⟨z1, z2⟩ := e1.fr p _ hL gp ⟨(fun _ z => nomatch z), fun _ z => nomatch z⟩
  have eb := (ex.trans e1).base np z2
  refine ⟨n, rfl, j0, j1, ?_⟩
  refine for_range (fun j => OSt K (I j) i p G1 (del H1 p) B1) ⟨ρ, ds, B1, G1, vs, i0, Ext.back e1.sub, en.mono e1.le, hp, z2, z1, hr.mono e1.le⟩ ?_ ?_
  · rintro j σ' H' hi ⟨ρ', ds', B', G', vs', hI, e2, en2, hp', gp', hL', hr'⟩
    exact wo_round (hs j ρ' ds' B' hi hI) delD_same e2 en2 hp' gp' hL' hr' rfl (x.ext eb) (q.ext eb) OSt.ok
  · rintro σ' H' ⟨ρ', ds', B', G', vs', hI, e2, en2, hp', gp', hL', hr'⟩
    exact q.nx _ _ _ _ _ _ _ (hd _ _ _ hI) (eb.trans e2) en2 hp' gp' hL' hr'
theorem for_zip {Sq : Hp → Addr → List V → Prop} {a b : Addr} {xs ys : List V} (hl : xs.length = ys.length) {g : TG} {tb : TS} {D : Ends} {σ : L2.St} {H : Hp} (Pv : Nat → L2.St → Hp → Prop) (h0 : Pv 0 σ H) (hq : ∀ i σ H, i ≤ xs.length → Pv i σ H → Sq H a xs ∧ Sq H b ys)
    (hs : ∀ i x y T σ H, xs[i]? = some x → ys[i]? = some y → Pv i σ H → H T = none → g (.ref T) σ (upd H T (.tup [x, y])) fun σ2 H2 => tb { D with nx := Pv (i + 1), ct := Pv (i + 1), bk := D.nx } σ2 H2) (hd : ∀ σ H, Pv xs.length σ H → D.nx σ H) :
    ∃ W : Nat → Nat → L2.St → Hp → Prop, (∃ m, W 0 m σ H) ∧ ∀ i m σ H, W i m σ H →
      ((ItzG Sq a b).stop i H ∧ D.nx σ H) ∨ ((ItzG Sq a b).go i H ∧ ∃ N : L2.St → Hp → Prop, (∀ σ' H', N σ' H' → ∃ m', m' < m ∧ W (i + 1) m' σ' H') ∧ ∀ x H', (ItzG Sq a b).yld i H x H' → g x σ H' fun σ2 H2 => tb { D with nx := N, ct := N, bk := D.nx } σ2 H2) := by
  refine ⟨fun i m σ H => m = xs.length - i ∧ i ≤ xs.length ∧ Pv i σ H, ⟨xs.length, by simp, Nat.zero_le _, h0⟩, ?_⟩
  rintro i m σ H ⟨rfl, hi, p⟩
  obtain ⟨qx, qy⟩ := hq i σ H hi p
  by_cases hlt : i < xs.length
  · have hx : xs[i]? = some xs[i] := List.getElem?_eq_getElem hlt
    have hlt2 : i < ys.length := by omega
    have hy : ys[i]? = some ys[i] := List.getElem?_eq_getElem hlt2
    refine .inr ⟨⟨xs, ys, _, _, qx, qy, hx, hy⟩, Pv (i + 1), fun σ' H' p' => ⟨xs.length - (i + 1), by omega, rfl, hlt, p'⟩, fun v H' y => ?_⟩
    obtain ⟨T, x', y', rfl, hT, rfl, f1, f2⟩ := y
    exact hs i x' y' T σ H (f1 xs qx) (f2 ys qy) p hT
  · have e : i = xs.length := by omega
    subst e
    exact .inl ⟨⟨xs, ys, qx, qy, Or.inl (Nat.le_refl _)⟩, hd σ H p⟩
/-- for x, y in zip(list, list) -/
theorem ws_for_zipL (h : Wa K E e t ρ B fun as B1 => ∃ xs ys : List D, as = [.lst xs, .lst ys] ∧ xs.length = ys.length ∧ ∃ I : Nat → KE', I 0 ρ B1 ∧ (∀ i x y ρ' B', xs[i]? = some x → ys[i]? = some y → I i ρ' B' → Wg K g (.tup [x, y]) ρ' B' fun ρ2 B2 => Ws K E e tbody ρ2 B2 { nx := I (i + 1), rt := κ.rt, bk := κ.nx, ct := I (i + 1) }) ∧ ∀ ρ' B', I xs.length ρ' B' → κ.nx ρ' B') :
    Ws K E e (tFor (iZipA K t) g tbody) ρ B κ := fun σ H G Dn s en x q =>
  h σ H G _ s en x fun as vs B1 G1 H1 ⟨xs, ys, ed, hl, I, i0, hs, hd⟩ e1 r1 => by
    subst ed
    obtain ⟨_, _, rfl, ⟨a, us, rfl, ha, hr⟩, _, _, rfl, ⟨b, ws, rfl, hb, hw⟩, rfl⟩ := r1
    have hul : us.length = ws.length := by rw [← hr.length, ← hw.length]; exact hl
    refine ⟨a, b, us, ws, rfl, .inl ⟨SqL.of (e1.sub _ _ ha), SqL.of (e1.sub _ _ hb), ?_⟩⟩
    refine for_zip (Sq := SqL K) (xs := us) (ys := ws) hul (fun i σ' H' => ∃ ρ' B' G', I i ρ' B' ∧ Ext G1 H1 B1 G' H' B' ∧ EnvR K G' B' ρ' σ') ⟨ρ, B1, G1, i0, Ext.refl e1.sub, en.mono e1.le⟩ (fun i σ' H' _ ⟨_, _, G', _, e2, _⟩ => ⟨SqL.of (e2.sub _ _ (e2.le.keep _ _ ha nopen_lst)), SqL.of (e2.sub _ _ (e2.le.keep _ _ hb nopen_lst))⟩) ?_ ?_
    · rintro i v w T σ' H' hi hi2 ⟨ρ', B', G', hI, e2, en2⟩ hT
      obtain ⟨dx, hdx, rx⟩ := hr.get' hi
      obtain ⟨dy, hdy, ry⟩ := hw.get' hi2
      have gT : G' T = none := by
        cases z : G' T with
        | none => rfl
        | some u => rw [e2.sub _ _ z] at hT; cases hT
      have e3 := Ext.new (B := B') (o := .tup [v, w]) e2.sub hT
      refine hs i dx dy ρ' B' hdx hdy hI (.ref T) σ' _ _ _ e3.sub (en2.mono e3.le) ⟨T, [v, w], rfl, SqT.of upd_same, v, [w], rfl, (rx.mono e2.le).mono e3.le, w, [], rfl, (ry.mono e2.le).mono e3.le, rfl⟩ fun ρ2 σ2 B2 G2 H2 h2 e4 en4 => ?_
      have eA := e1.trans ((e2.trans e3).trans e4)
      exact h2 σ2 H2 G2 _ e4.sub en4 (x.ext eA) ⟨fun ρ3 σ3 B3 G3 H3 h3 e5 en5 => ⟨ρ3, B3, G3, h3, ((e2.trans e3).trans e4).trans e5, en5⟩, q.rt.ext eA, q.nx.ext eA, fun ρ3 σ3 B3 G3 H3 h3 e5 en5 => ⟨ρ3, B3, G3, h3, ((e2.trans e3).trans e4).trans e5, en5⟩⟩
    · rintro σ' H' ⟨ρ', B', G', hI, e2, en2⟩
      rw [← hr.length] at hI
      exact q.nx _ _ _ _ _ (hd _ _ hI) (e1.trans e2) en2
/-- min(list of tuples of ints) -/
theorem we_minT (h : Wa K E e t ρ B fun as B1 => ∃ nss : List (List Int), as = [.lst (nss.map fun ns => .tup (ns.map D.int))] ∧ 0 < nss.length ∧ ∀ ns ∈ nss, (∀ ms ∈ nss, HT.lexLt ms ns = false) → k (.tup (ns.map D.int)) B1) : We K E e (tCB (RM.rMinT K) t) ρ B k :=
  we_cb fun σ H G Q s en x q => h σ H G Q s en x fun ds vs B1 G1 H1 ⟨nss, ed, h0, hk⟩ e1 r1 => q ds vs B1 G1 H1 (fun ws H2 G2 Q2 s2 r2 q2 => by
    subst ed
    obtain ⟨_, _, rfl, ⟨a, us, rfl, ha, hr⟩, rfl⟩ := r2
    have hlen : us.length = nss.length := by rw [← hr.length, List.length_map]
    have get : ∀ (j : Nat) u ns, us[j]? = some u → nss[j]? = some ns → ∃ t, u = .ref t ∧ SqT K G2 t (ns.map V.int) := fun j u ns h1 h2 => by
      obtain ⟨d, hd, rd⟩ := hr.get' h1
      rw [List.getElem?_map, h2] at hd
      cases hd
      obtain ⟨t, zs, e, ht, hz⟩ := rd
      rw [RepL.ints_inv hz] at ht
      exact ⟨t, e, ht⟩
    have le : Le G2 B1 H2 B1 := Le.of_sub s2 (Int.le_refl _)
    refine ⟨a, us, nss, rfl, SqL.of (s2 _ _ ha), hlen, fun j u ns h1 h2 => ?_, h0, fun j u ns h1 h2 hm => ?_⟩
    · obtain ⟨t, e, ht⟩ := get j u ns h1 h2
      exact ⟨t, e, le.seqT ht⟩
    · obtain ⟨t, e, ht⟩ := get j u ns h1 h2
      subst e
      exact q2 _ _ _ _ _ (hk ns (List.mem_of_getElem? h2) hm) (Ext.refl s2) ⟨t, _, rfl, ht, RepL.ints ns⟩) e1 r1
theorem wg_unl {n : Nat} {gs : TGs} {k : KE'} (hn : ds.length = n) (h : Wgs K gs ds ρ B k) : Wg K (gUnl K n gs) (.lst ds) ρ B k := fun v σ H G Q s en r q => by
  obtain ⟨a, vs, rfl, ha, hr⟩ := r
  exact ⟨a, vs, rfl, SqL.of (s _ _ ha), by rw [← hr.length]; exact hn, h vs σ H G Q s en hr q⟩
theorem we_isi_list (h : Wa K E e t ρ B fun ds B1 => ∃ xs : List D, ds = [.lst xs, .val (.ty "list")] ∧ k (.bl true) B1) : We K E e (tCB (rIsi K) t) ρ B k :=
  we_cb fun σ H G Q s en x q => h σ H G Q s en x fun ds vs B1 G1 H1 ⟨xs, ed, hk⟩ e1 r1 => q ds vs B1 G1 H1 (fun ws H2 G2 Q2 s2 r2 q2 => by
    subst ed
    obtain ⟨_, _, rfl, ⟨a, us, rfl, ha, hr⟩, c, _, rfl, rc, rfl⟩ := r2
    rw [show c = _ from rc]
    exact ⟨_, _, _, _, true, rfl, .ty _, .base (.lst (s2 _ _ ha)), kit_ty (by decide +kernel), q2 _ _ _ _ _ hk (Ext.refl s2) rfl⟩) e1 r1
theorem un65 {k : Nat} {A : Around} (r : Room k A) : A.units + 65 < cLine := by have := r.un; omega
theorem wb_join (J : List (Option D) → List D → Int → Prop) (h1 : ∀ us, (∀ ρ' ds' B', J ρ' ds' B' → Wsb K E e us ρ' B' i ds' κ) → Wsb K E e (tSeq s us) ρ B i ds κ) (h2 : ∀ ρ' ds' B', J ρ' ds' B' → Wsb K E e us ρ' B' i ds' κ) : Wsb K E e (tSeq s us) ρ B i ds κ := h1 us h2
theorem wb_assoc {a b c : TS} (h : Wsb K E e (tSeq a (tSeq b c)) ρ B i ds κ) : Wsb K E e (tSeq (tSeq a b) c) ρ B i ds κ := h
theorem wb_asg2 {l : Nat} (hij : j ≠ i) (hil : l ≠ i) (h : We K E e ta ρ B fun d B1 => ∃ a b, d = .tup [a, b] ∧ Wsb K E e us ((ρ.set j (some a)).set l (some b)) B1 i ds κ) : Wsb K E e (tSeq (tAsg ta (gTup K 2 (gCons (gName j) (gCons (gName l) gNil)))) us) ρ B i ds κ := fun σ H G Dn G0 H0 B0 p vs s en hp np gp hL hr ex x q => by
  refine h σ H G _ s en (x.ext ex) fun d v B1 G1 H1 hb e1 rv => ?_
  obtain ⟨a, b, rfl, hb⟩ := hb
  obtain ⟨T, ws, rfl, hT, va, _, rfl, ra, vb, _, rfl, rb, rfl⟩ := rv
  obtain ⟨z1, z2⟩ := e1.fr p _ hL gp ⟨(fun _ z => nomatch z), fun _ z => nomatch z⟩
  refine ⟨T, [va, vb], rfl, (Le.of_sub (B := B1) (B' := B1) e1.sub (Int.le_refl _)).seqT hT, rfl, va, [vb], rfl, vb, [], rfl, rfl, ?_⟩
  exact hb _ H1 G1 Dn G0 H0 B0 p vs e1.sub (EnvR.set rb l (EnvR.set ra j (en.mono e1.le))) (by rw [List.getElem?_set_ne hil, List.getElem?_set_ne hij]; exact hp) np z2 z1 (hr.mono e1.le) (ex.trans e1) x q
end
end AW

set_option linter.all false
set_option maxRecDepth 100000
set_option maxHeartbeats 4000000
namespace AW
open PySem PySem.Spec PyProof.Rows L2 RZ
variable [Tbs]
/-! a comprehension over pairs; list(list) -/
section
variable {K : PySem.W.Frag} {E E' E1 : XK} {e : EW} {ρ : List (Option D)} {B : Int} {k : KD} {κ : KS} {ta tb tl te : TE} {t : TA} {i j : Nat}
theorem map_stepP {α : Type} {f : α → D} {xs : List α} {n : Nat} {x : α} (hx : xs[n]? = some x) : (xs.map f).take n ++ [f x] = (xs.map f).take (n + 1) := by
  rw [List.take_add_one, List.getElem?_map, hx]
  rfl
/-- [f(x, y) for x, y in a list of pairs] -/
theorem we_lc_pairL (hij : i ≠ j) (h : We K E e tl ρ B fun d B1 => ∃ xs : List (D × D), d = .lst (xs.map fun z => .tup [z.1, z.2]) ∧ xs.length < sizeLine ∧ ∃ f : D → D → D, (∀ (n : Nat) (x y : D), xs[n]? = some (x, y) → ∀ k' : KD, k' (f x y) B1 → We K E1 noE te ((((ρ.set j none).set i none).set i (some x)).set j (some y)) B1 k') ∧ k (.lst (xs.map fun z => f z.1 z.2)) B1) :
    We K E e (tLc (iList K tl) (gTup K 2 (gCons (gName i) (gCons (gName j) gNil))) tYes te [i, j]) ρ B k := fun σ H G Q s en x q =>
  h σ H G _ s en x fun d v B1 G1 H1 ⟨xs, ed, hz, f, hs, hk⟩ e1 r1 => by
    subst ed
    obtain ⟨a, us, rfl, ha, hr⟩ := r1
    have hlen : us.length = xs.length := by rw [← hr.length, List.length_map]
    have en1 := en.mono e1.le
    refine ⟨a, rfl, ⟨us, SqL.of (e1.sub _ _ ha)⟩, fun L nL => ?_⟩
    refine lc_list (xs := us) (fun n H' => LcOk K (fun out B => out = (xs.map fun z => f z.1 z.2).take n ∧ B = B1) L G1 H1 B1 H') (lc_start e1.sub nL ⟨by simp, rfl⟩) (fun i H' _ z => SqL.of (z.kept ha nopen_lst)) ?_ ?_
    · intro n y H' hi hP
      obtain ⟨dx, hdx, rx⟩ := hr.get' hi
      rw [List.getElem?_map] at hdx
      have hn : n < xs.length := by rw [← hlen]; exact (List.getElem?_eq_some_iff.mp hi).1
      have hx : xs[n]? = some xs[n] := List.getElem?_eq_getElem hn
      rw [hx] at hdx
      generalize xs[n] = z at hx hdx
      obtain ⟨zx, zy⟩ := z
      cases hdx
      obtain ⟨out, B', G', acc, ⟨eo, eB⟩, e2, gL, hL, hr2⟩ := hP
      subst eB
      obtain ⟨T, ws, rfl, hT, v, _, rfl, rv, w, _, rfl, rw_, rfl⟩ := rx
      have hT2 : SqT K H' T [v, w] := (Le.of_sub (B := B) (B' := B) e2.sub (Int.le_refl _)).seqT (e2.le.seqT hT)
      refine ⟨T, [v, w], rfl, hT2, rfl, v, [w], rfl, w, [], rfl, rfl, ?_, ?_⟩
      · show ((((((σ.set j none).set i none).set i (some v)).set j (some w)).set j none).set i none) = (σ.set j none).set i none
        exact set_two σ hij (some v) (some v) (some w) none
      · have en2 : EnvR K G' B' ((((ρ.set j none).set i none).set i (some zx)).set j (some zy)) ((((σ.set j none).set i none).set i (some v)).set j (some w)) := EnvR.set (rw_.mono e2.le) j (EnvR.set (rv.mono e2.le) i (EnvR.wipe1 i (EnvR.wipe1 j (en1.mono e2.le))))
        refine hs n zx zy hx (fun d B2 => d = f zx zy ∧ B2 = B') ⟨rfl, rfl⟩ _ _ G' _ e2.sub en2 XOk.no fun d u B4 G4 H4 ⟨ed, eB⟩ e4 r4 => ?_
        subst ed eB
        obtain ⟨z1, z2⟩ := e4.fr L _ hL gL ⟨(fun _ z => nomatch z), fun _ z => nomatch z⟩
        have hlen2 : acc.length < sizeLine := by
          rw [← hr2.length, eo, List.length_take, List.length_map]
          omega
        refine ⟨acc, z1, hlen2, out ++ [f zx zy], B4, G4, acc ++ [u], ⟨by rw [eo]; exact map_stepP (f := fun z : D × D => f z.1 z.2) hx, rfl⟩, ?_, z2, upd_same, (hr2.mono e4.le).append ⟨u, [], rfl, r4, rfl⟩⟩
        have eA := e2.trans e4
        refine ⟨eA.le, fun a o z => ?_, fun a o z n t => ?_⟩
        · have : a ≠ L := fun q => by rw [q, z2] at z; cases z
          rw [upd_ne this]; exact eA.sub _ _ z
        · have : a ≠ L := ne_of_none z nL
          rw [upd_ne this]
          exact eA.fr _ _ z n t
    · intro H' hz2
      refine lc_end e1 nL hz2 (fun out B' hI => ?_) q
      obtain ⟨eo, eB⟩ := hI
      subst eB
      have : (xs.map fun z => f z.1 z.2).take us.length = xs.map fun z => f z.1 z.2 := List.take_of_length_le (by rw [List.length_map]; omega)
      rw [eo, this]
      exact hk
/-- list(list) -/
theorem we_listL (h : Wa K E e t ρ B fun ds B1 => ∃ xs : List D, ds = [.lst xs] ∧ k (.lst xs) B1) :
    We K E e (tCB (fun xs H Q => ∃ p ys, xs = [.ref p] ∧ (SqL K H p ys ∨ SqT K H p ys) ∧ ∀ l, H l = none → Q (.ref l) (upd H l (.lst ys))) t) ρ B k :=
  we_cb fun σ H G Q s en x q => h σ H G Q s en x fun ds vs B1 G1 H1 ⟨xs, ed, hk⟩ e1 r1 => q ds vs B1 G1 H1 (fun ws H2 G2 Q2 s2 r2 q2 => by
    subst ed
    obtain ⟨v, _, rfl, ⟨a, us, rfl, ha, hr⟩, rfl⟩ := r2
    exact ⟨a, us, rfl, .inl (SqL.of (s2 _ _ ha)), fun l nl => q2 _ _ _ _ _ hk (Ext.new (B := B1) s2 nl) ⟨l, us, rfl, upd_same, hr.mono (Ext.new (B := B1) s2 nl).le⟩⟩) e1 r1
end
end AW

set_option linter.all false
set_option maxRecDepth 100000
set_option maxHeartbeats 4000000
namespace AW
open PySem PySem.Spec PyProof.Rows L2 RZ
variable [Tbs]
/-! < over data; either a list or a tuple; comprehensions that leave out; over triples -/
section
variable {K : PySem.W.Frag} {E E' E1 : XK} {e : EW} {ρ : List (Option D)} {B : Int} {k : KD} {κ : KS} {ta tb tl te : TE} {tt : TT} {t : TA} {ts : TS} {g : TG} {i j l sl : Nat} {t1 t2 : TI}
theorem ro_ltDD {a b : D} (oa : pyOk a = true) (ob : pyOk b = true) (al : PySem.W.alike (py a) (py b) = true) (nn : py a ≠ .none) (dp : min (py a).depth (py b).depth ≤ 60) (h : k (.bl (PySem.W.dataLt (py a) (py b))) B) : Ro K E e (rLtDD K) a b B k := fun x y H G Q s r1 r2 _ q =>
  ⟨_, _, Rep.dp s r1 oa, Rep.dp s r2 ob, al, nn, dp, q _ _ _ _ _ h (Ext.refl s) rfl⟩
theorem ws_orL (h : Ws K E e (tFor t1 g ts) ρ B κ) : Ws K E e (tFor (iOr t1 t2) g ts) ρ B κ := fun σ H G Dn s en x q => .inl (h σ H G Dn s en x q)
theorem ws_orR (h : Ws K E e (tFor t2 g ts) ρ B κ) : Ws K E e (tFor (iOr t1 t2) g ts) ρ B κ := fun σ H G Dn s en x q => .inr (h σ H G Dn s en x q)
theorem we_lcOrL {vs : List Nat} (h : We K E e (tLc t1 g tt te vs) ρ B k) : We K E e (tLc (iOr t1 t2) g tt te vs) ρ B k := fun σ H G Q s en x q => .inl (h σ H G Q s en x q)
theorem we_lcOrR {vs : List Nat} (h : We K E e (tLc t2 g tt te vs) ρ B k) : We K E e (tLc (iOr t1 t2) g tt te vs) ρ B k := fun σ H G Q s en x q => .inr (h σ H G Q s en x q)
theorem atI_get {α : Type} {xs : List α} {i : Nat} {x : α} (h : xs[i]? = some x) : atI xs (i : Int) = some x := by
  have hl := (List.getElem?_eq_some_iff.mp h).1
  unfold atI ixN
  rw [if_pos (by omega), if_pos (by omega)]
  simpa using h
theorem atI0 {α : Type} {x : α} {xs : List α} : atI (x :: xs) 0 = some x := atI_get (i := 0) rfl
/-- a list, or a tuple -/
def seqD (b : Bool) (ds : List D) : D := if b = true then .tup ds else .lst ds
theorem ws_for_seq (b : Bool) (h : We K E e tl ρ B fun d B1 => ∃ ds, d = seqD b ds ∧ ∃ I : Nat → KE', I 0 ρ B1 ∧ (∀ i x ρ' B', ds[i]? = some x → I i ρ' B' → Wg K g x ρ' B' fun ρ2 B2 => Ws K E e ts ρ2 B2 { nx := I (i + 1), rt := κ.rt, bk := κ.nx, ct := I (i + 1) }) ∧ ∀ ρ' B', I ds.length ρ' B' → κ.nx ρ' B') :
    Ws K E e (tFor (iOr (iList K tl) (iTup K tl)) g ts) ρ B κ := by
  cases b with
  | false => exact ws_orL (ws_for_list h)
  | true => exact ws_orR (ws_for_tup h)
theorem we_lenSq (b : Bool) (h : Wa K E e t ρ B fun ds B1 => ∃ xs, ds = [seqD b xs] ∧ k (.int xs.length) B1) : We K E e (tCB (fun xs H Q => ∃ p ys, xs = [.ref p] ∧ (SqL K H p ys ∨ SqT K H p ys) ∧ Q (.int ys.length) H) t) ρ B k := by
  cases b with
  | false => exact we_lenL h
  | true => exact we_lenT h
theorem filt_step {α : Type} {p : α → Bool} {f : α → D} {xs : List α} {n : Nat} {x : α} (hx : xs[n]? = some x) : ((xs.take (n + 1)).filter p).map f = ((xs.take n).filter p).map f ++ (if p x = true then [f x] else []) := by
  rw [List.take_add_one, hx, List.filter_append, List.map_append]
  congr 1
  cases h : p x <;> simp [h]
/-- [x for x in xs if p(x)], over a list or a tuple of data told by f -/
theorem we_lc_filtL {α : Type} {f : α → D} (h : We K E e tl ρ B fun d B1 => ∃ (xs : List α) (p : α → Bool), d = .lst (xs.map f) ∧ xs.length < sizeLine ∧ (∀ x ∈ xs, ∀ kb : Bool → Int → Prop, kb (p x) B1 → Wt K E1 noE tt ((ρ.set sl none).set sl (some (f x))) B1 kb) ∧
    (∀ x ∈ xs, ∀ k' : KD, k' (f x) B1 → We K E1 noE te ((ρ.set sl none).set sl (some (f x))) B1 k') ∧ k (.lst ((xs.filter p).map f)) B1) :
    We K E e (tLc (iList K tl) (gName sl) tt te [sl]) ρ B k := we_lc_list (E1 := E1) (h.imp fun d B1 ⟨xs, p, ed, hl, ht, hs, hk⟩ => ⟨xs.map f, ed, by rw [List.length_map]; exact hl, fun n out B' => out = ((xs.take n).filter p).map f ∧ B' = B1, ⟨rfl, rfl⟩, fun n y out B' hn ⟨eo, eB⟩ => by
      rw [List.getElem?_map] at hn
      obtain ⟨x, hx, ey⟩ := Option.map_eq_some_iff.mp hn
      subst ey eB
      have hm := List.mem_of_getElem? hx
      refine ht x hm _ ⟨fun hb => hs x hm _ ⟨?_, rfl⟩, fun hb => ⟨?_, rfl⟩⟩
      · rw [eo, filt_step hx, hb, if_pos rfl]
      · rw [eo, filt_step hx, hb, if_neg Bool.false_ne_true, List.append_nil], fun out B' _ ⟨eo, eB⟩ => by
      rw [eo, eB, List.length_map, List.take_length]
      exact hk⟩)
theorem we_lc_filtT {α : Type} {f : α → D} (h : We K E e tl ρ B fun d B1 => ∃ (xs : List α) (p : α → Bool), d = .tup (xs.map f) ∧ xs.length < sizeLine ∧ (∀ x ∈ xs, ∀ kb : Bool → Int → Prop, kb (p x) B1 → Wt K E1 noE tt ((ρ.set sl none).set sl (some (f x))) B1 kb) ∧
    (∀ x ∈ xs, ∀ k' : KD, k' (f x) B1 → We K E1 noE te ((ρ.set sl none).set sl (some (f x))) B1 k') ∧ k (.lst ((xs.filter p).map f)) B1) :
    We K E e (tLc (iTup K tl) (gName sl) tt te [sl]) ρ B k := we_lc_tup (E1 := E1) (h.imp fun d B1 ⟨xs, p, ed, hl, ht, hs, hk⟩ => ⟨xs.map f, ed, by rw [List.length_map]; exact hl, fun n out B' => out = ((xs.take n).filter p).map f ∧ B' = B1, ⟨rfl, rfl⟩, fun n y out B' hn ⟨eo, eB⟩ => by
      rw [List.getElem?_map] at hn
      obtain ⟨x, hx, ey⟩ := Option.map_eq_some_iff.mp hn
      subst ey eB
      have hm := List.mem_of_getElem? hx
      refine ht x hm _ ⟨fun hb => hs x hm _ ⟨?_, rfl⟩, fun hb => ⟨?_, rfl⟩⟩
      · rw [eo, filt_step hx, hb, if_pos rfl]
      · rw [eo, filt_step hx, hb, if_neg Bool.false_ne_true, List.append_nil], fun out B' _ ⟨eo, eB⟩ => by
      rw [eo, eB, List.length_map, List.take_length]
      exact hk⟩)
theorem we_lc_filtS {α : Type} {f : α → D} (b : Bool) (h : We K E e tl ρ B fun d B1 => ∃ (xs : List α) (p : α → Bool), d = seqD b (xs.map f) ∧ xs.length < sizeLine ∧ (∀ x ∈ xs, ∀ kb : Bool → Int → Prop, kb (p x) B1 → Wt K E1 noE tt ((ρ.set sl none).set sl (some (f x))) B1 kb) ∧
    (∀ x ∈ xs, ∀ k' : KD, k' (f x) B1 → We K E1 noE te ((ρ.set sl none).set sl (some (f x))) B1 k') ∧ k (.lst ((xs.filter p).map f)) B1) :
    We K E e (tLc (iOr (iList K tl) (iTup K tl)) (gName sl) tt te [sl]) ρ B k := by
  cases b with
  | false => exact we_lcOrL (we_lc_filtL (E1 := E1) h)
  | true => exact we_lcOrR (we_lc_filtT (E1 := E1) h)
theorem map_map_step {α : Type} {f g : α → D} {xs : List α} {n : Nat} {x : α} (hx : xs[n]? = some x) : (xs.map g).take n ++ [g x] = (xs.map g).take (n + 1) := map_stepP hx
/-- [g(x) for x in xs] with xs told by f -/
theorem we_lc_toldL {α : Type} {f g : α → D} (h : We K E e tl ρ B fun d B1 => ∃ xs : List α, d = .lst (xs.map f) ∧ xs.length < sizeLine ∧ (∀ x ∈ xs, ∀ k' : KD, k' (g x) B1 → We K E1 noE te ((ρ.set sl none).set sl (some (f x))) B1 k') ∧ k (.lst (xs.map g)) B1) :
    We K E e (tLc (iList K tl) (gName sl) tYes te [sl]) ρ B k := we_lc_list (E1 := E1) (h.imp fun d B1 ⟨xs, ed, hl, hs, hk⟩ => ⟨xs.map f, ed, by rw [List.length_map]; exact hl, fun n out B' => out = (xs.map g).take n ∧ B' = B1, ⟨rfl, rfl⟩, fun n y out B' hn ⟨eo, eB⟩ => wt_yes ⟨fun _ => by
      rw [List.getElem?_map] at hn
      obtain ⟨x, hx, ey⟩ := Option.map_eq_some_iff.mp hn
      subst ey eB
      refine hs x (List.mem_of_getElem? hx) _ ⟨?_, rfl⟩
      rw [eo]
      exact map_stepP (f := g) hx, fun h => nomatch h⟩, fun out B' _ ⟨eo, eB⟩ => by
      rw [eo, eB, List.length_map, List.take_of_length_le (by rw [List.length_map]; exact Nat.le_refl _)]
      exact hk⟩)
theorem we_lc_toldT {α : Type} {f g : α → D} (h : We K E e tl ρ B fun d B1 => ∃ xs : List α, d = .tup (xs.map f) ∧ xs.length < sizeLine ∧ (∀ x ∈ xs, ∀ k' : KD, k' (g x) B1 → We K E1 noE te ((ρ.set sl none).set sl (some (f x))) B1 k') ∧ k (.lst (xs.map g)) B1) :
    We K E e (tLc (iTup K tl) (gName sl) tYes te [sl]) ρ B k := we_lc_tup (E1 := E1) (h.imp fun d B1 ⟨xs, ed, hl, hs, hk⟩ => ⟨xs.map f, ed, by rw [List.length_map]; exact hl, fun n out B' => out = (xs.map g).take n ∧ B' = B1, ⟨rfl, rfl⟩, fun n y out B' hn ⟨eo, eB⟩ => wt_yes ⟨fun _ => by
      rw [List.getElem?_map] at hn
      obtain ⟨x, hx, ey⟩ := Option.map_eq_some_iff.mp hn
      subst ey eB
      refine hs x (List.mem_of_getElem? hx) _ ⟨?_, rfl⟩
      rw [eo]
      exact map_stepP (f := g) hx, fun h => nomatch h⟩, fun out B' _ ⟨eo, eB⟩ => by
      rw [eo, eB, List.length_map, List.take_of_length_le (by rw [List.length_map]; exact Nat.le_refl _)]
      exact hk⟩)
theorem we_lc_toldS {α : Type} {f g : α → D} (b : Bool) (h : We K E e tl ρ B fun d B1 => ∃ xs : List α, d = seqD b (xs.map f) ∧ xs.length < sizeLine ∧ (∀ x ∈ xs, ∀ k' : KD, k' (g x) B1 → We K E1 noE te ((ρ.set sl none).set sl (some (f x))) B1 k') ∧ k (.lst (xs.map g)) B1) :
    We K E e (tLc (iOr (iList K tl) (iTup K tl)) (gName sl) tYes te [sl]) ρ B k := by
  cases b with
  | false => exact we_lcOrL (we_lc_toldL (E1 := E1) h)
  | true => exact we_lcOrR (we_lc_toldT (E1 := E1) h)
theorem set_three {α : Type} (σ : List α) {i j l : Nat} (hij : i ≠ j) (hil : i ≠ l) (hjl : j ≠ l) (a b c z : α) : (((((((((σ.set l z).set j z).set i z).set i a).set j b).set l c).set l z).set j z).set i z) = ((σ.set l z).set j z).set i z := by
  apply List.ext_getElem?
  intro n
  simp only [List.getElem?_set, List.length_set]
  by_cases h1 : i = n <;> by_cases h2 : j = n <;> by_cases h3 : l = n <;> first | (exfalso; omega) | simp [h1, h2, h3]
/-- [f(x, y, z) for x, y, z in a list of triples] -/
theorem we_lc_tripL {α : Type} {fx fy fz f : α → D} (hij : i ≠ j) (hil : i ≠ l) (hjl : j ≠ l) (h : We K E e tl ρ B fun d B1 => ∃ xs : List α, d = .lst (xs.map fun z => .tup [fx z, fy z, fz z]) ∧ xs.length < sizeLine ∧ (∀ x ∈ xs, ∀ k' : KD, k' (f x) B1 → We K E1 noE te ((((((ρ.set l none).set j none).set i none).set i (some (fx x))).set j (some (fy x))).set l (some (fz x))) B1 k') ∧ k (.lst (xs.map f)) B1) :
    We K E e (tLc (iList K tl) (gTup K 3 (gCons (gName i) (gCons (gName j) (gCons (gName l) gNil)))) tYes te [i, j, l]) ρ B k := fun σ H G Q s en x q =>
  h σ H G _ s en x fun d v B1 G1 H1 ⟨xs, ed, hz, hs, hk⟩ e1 r1 => by
    subst ed
    obtain ⟨a, us, rfl, ha, hr⟩ := r1
    have hlen : us.length = xs.length := by rw [← hr.length, List.length_map]
    have en1 := en.mono e1.le
    refine ⟨a, rfl, ⟨us, SqL.of (e1.sub _ _ ha)⟩, fun L nL => ?_⟩
    refine lc_list (xs := us) (fun n H' => LcOk K (fun out B => out = (xs.map f).take n ∧ B = B1) L G1 H1 B1 H') (lc_start e1.sub nL ⟨by simp, rfl⟩) (fun i H' _ z => SqL.of (z.kept ha nopen_lst)) ?_ ?_
    · intro n y H' hi hP
      obtain ⟨dx, hdx, rx⟩ := hr.get' hi
      rw [List.getElem?_map] at hdx
      obtain ⟨z, hx, ez⟩ := Option.map_eq_some_iff.mp hdx
      subst ez
      obtain ⟨out, B', G', acc, ⟨eo, eB⟩, e2, gL, hL, hr2⟩ := hP
      subst eB
      obtain ⟨T, ws, rfl, hT, v1, _, rfl, rv1, v2, _, rfl, rv2, v3, _, rfl, rv3, rfl⟩ := rx
      have hT2 : SqT K H' T [v1, v2, v3] := (Le.of_sub (B := B) (B' := B) e2.sub (Int.le_refl _)).seqT (e2.le.seqT hT)
      refine ⟨T, [v1, v2, v3], rfl, hT2, rfl, v1, [v2, v3], rfl, v2, [v3], rfl, v3, [], rfl, rfl, ?_, ?_⟩
      · exact set_three σ hij hil hjl (some v1) (some v2) (some v3) none
      · have en2 : EnvR K G' B' ((((((ρ.set l none).set j none).set i none).set i (some (fx z))).set j (some (fy z))).set l (some (fz z))) ((((((σ.set l none).set j none).set i none).set i (some v1)).set j (some v2)).set l (some v3)) := EnvR.set (rv3.mono e2.le) l (EnvR.set (rv2.mono e2.le) j (EnvR.set (rv1.mono e2.le) i (EnvR.wipe1 i (EnvR.wipe1 j (EnvR.wipe1 l (en1.mono e2.le))))))
        refine hs z (List.mem_of_getElem? hx) (fun d B2 => d = f z ∧ B2 = B') ⟨rfl, rfl⟩ _ _ G' _ e2.sub en2 XOk.no fun d u B4 G4 H4 ⟨ed, eB⟩ e4 r4 => ?_
        subst ed eB
        obtain ⟨z1, z2⟩ := e4.fr L _ hL gL ⟨(fun _ z => nomatch z), fun _ z => nomatch z⟩
        have hn : n < xs.length := by rw [← hlen]; exact (List.getElem?_eq_some_iff.mp hi).1
        have hlen2 : acc.length < sizeLine := by
          rw [← hr2.length, eo, List.length_take, List.length_map]
          omega
        refine ⟨acc, z1, hlen2, out ++ [f z], B4, G4, acc ++ [u], ⟨by rw [eo]; exact map_stepP (f := f) hx, rfl⟩, ?_, z2, upd_same, (hr2.mono e4.le).append ⟨u, [], rfl, r4, rfl⟩⟩
        have eA := e2.trans e4
        refine ⟨eA.le, fun a o z => ?_, fun a o z n t => ?_⟩
        · have : a ≠ L := fun q => by rw [q, z2] at z; cases z
          rw [upd_ne this]; exact eA.sub _ _ z
        · have : a ≠ L := ne_of_none z nL
          rw [upd_ne this]
          exact eA.fr _ _ z n t
    · intro H' hz2
      refine lc_end e1 nL hz2 (fun out B' hI => ?_) q
      obtain ⟨eo, eB⟩ := hI
      subst eB
      have : (xs.map f).take us.length = xs.map f := List.take_of_length_le (by rw [List.length_map]; omega)
      rw [eo, this]
      exact hk
/-- [f(x, y) for x, y in a list of pairs, told] -/
theorem we_lc_dupL {α : Type} {fx fy f : α → D} (hij : i ≠ j) (h : We K E e tl ρ B fun d B1 => ∃ xs : List α, d = .lst (xs.map fun z => .tup [fx z, fy z]) ∧ xs.length < sizeLine ∧ (∀ x ∈ xs, ∀ k' : KD, k' (f x) B1 → We K E1 noE te ((((ρ.set j none).set i none).set i (some (fx x))).set j (some (fy x))) B1 k') ∧ k (.lst (xs.map f)) B1) :
    We K E e (tLc (iList K tl) (gTup K 2 (gCons (gName i) (gCons (gName j) gNil))) tYes te [i, j]) ρ B k := fun σ H G Q s en x q =>
  h σ H G _ s en x fun d v B1 G1 H1 ⟨xs, ed, hz, hs, hk⟩ e1 r1 => by
    subst ed
    obtain ⟨a, us, rfl, ha, hr⟩ := r1
    have hlen : us.length = xs.length := by rw [← hr.length, List.length_map]
    have en1 := en.mono e1.le
    refine ⟨a, rfl, ⟨us, SqL.of (e1.sub _ _ ha)⟩, fun L nL => ?_⟩
    refine lc_list (xs := us) (fun n H' => LcOk K (fun out B => out = (xs.map f).take n ∧ B = B1) L G1 H1 B1 H') (lc_start e1.sub nL ⟨by simp, rfl⟩) (fun i H' _ z => SqL.of (z.kept ha nopen_lst)) ?_ ?_
    · intro n y H' hi hP
      obtain ⟨dx, hdx, rx⟩ := hr.get' hi
      rw [List.getElem?_map] at hdx
      obtain ⟨z, hx, ez⟩ := Option.map_eq_some_iff.mp hdx
      subst ez
      obtain ⟨out, B', G', acc, ⟨eo, eB⟩, e2, gL, hL, hr2⟩ := hP
      subst eB
      obtain ⟨T, ws, rfl, hT, v1, _, rfl, rv1, v2, _, rfl, rv2, rfl⟩ := rx
      have hT2 : SqT K H' T [v1, v2] := (Le.of_sub (B := B) (B' := B) e2.sub (Int.le_refl _)).seqT (e2.le.seqT hT)
      refine ⟨T, [v1, v2], rfl, hT2, rfl, v1, [v2], rfl, v2, [], rfl, rfl, ?_, ?_⟩
      · show ((((((σ.set j none).set i none).set i (some v1)).set j (some v2)).set j none).set i none) = (σ.set j none).set i none
        exact set_two σ hij (some v1) (some v1) (some v2) none
      · have en2 : EnvR K G' B' ((((ρ.set j none).set i none).set i (some (fx z))).set j (some (fy z))) ((((σ.set j none).set i none).set i (some v1)).set j (some v2)) := EnvR.set (rv2.mono e2.le) j (EnvR.set (rv1.mono e2.le) i (EnvR.wipe1 i (EnvR.wipe1 j (en1.mono e2.le))))
        refine hs z (List.mem_of_getElem? hx) (fun d B2 => d = f z ∧ B2 = B') ⟨rfl, rfl⟩ _ _ G' _ e2.sub en2 XOk.no fun d u B4 G4 H4 ⟨ed, eB⟩ e4 r4 => ?_
        subst ed eB
        obtain ⟨z1, z2⟩ := e4.fr L _ hL gL ⟨(fun _ z => nomatch z), fun _ z => nomatch z⟩
        have hn : n < xs.length := by rw [← hlen]; exact (List.getElem?_eq_some_iff.mp hi).1
        have hlen2 : acc.length < sizeLine := by
          rw [← hr2.length, eo, List.length_take, List.length_map]
          omega
        refine ⟨acc, z1, hlen2, out ++ [f z], B4, G4, acc ++ [u], ⟨by rw [eo]; exact map_stepP (f := f) hx, rfl⟩, ?_, z2, upd_same, (hr2.mono e4.le).append ⟨u, [], rfl, r4, rfl⟩⟩
        have eA := e2.trans e4
        refine ⟨eA.le, fun a o z => ?_, fun a o z n t => ?_⟩
        · have : a ≠ L := fun q => by rw [q, z2] at z; cases z
          rw [upd_ne this]; exact eA.sub _ _ z
        · have : a ≠ L := ne_of_none z nL
          rw [upd_ne this]
          exact eA.fr _ _ z n t
    · intro H' hz2
      refine lc_end e1 nL hz2 (fun out B' hI => ?_) q
      obtain ⟨eo, eB⟩ := hI
      subst eB
      have : (xs.map f).take us.length = xs.map f := List.take_of_length_le (by rw [List.length_map]; omega)
      rw [eo, this]
      exact hk
end
end AW

set_option linter.all false
set_option maxRecDepth 100000
set_option maxHeartbeats 4000000
namespace AW
open PySem PySem.Spec PyProof.Rows L2 RZ
variable [Tbs]
/-! comprehensions with two generators -/
section
variable {K : PySem.W.Frag} {E E' E1 : XK} {e : EW} {ρ : List (Option D)} {B : Int} {k : KD} {κ : KS} {ta tb tl te : TE} {tt : TT} {t : TA} {ts : TS} {g : TG} {sO sI : Nat}
theorem flat_step {α : Type} {f : α → List D} {xs : List α} {i : Nat} {x : α} (h : xs[i]? = some x) : (xs.take (i + 1)).flatMap f = (xs.take i).flatMap f ++ f x := by
  rw [List.take_add_one, h, List.flatMap_append]
  simp
theorem flat_le {α : Type} {f : α → List D} {xs : List α} {i : Nat} {x : α} (h : xs[i]? = some x) (j : Nat) : ((xs.take i).flatMap f ++ (f x).take j).length ≤ (xs.flatMap f).length := by
  have e : xs = xs.take i ++ x :: xs.drop (i + 1) := by
    obtain ⟨h1, h2⟩ := List.getElem?_eq_some_iff.mp h
    rw [← h2, ← List.drop_eq_getElem_cons h1, List.take_append_drop]
  have e2 : xs.flatMap f = (xs.take i).flatMap f ++ (f x ++ (xs.drop (i + 1)).flatMap f) := by
    conv => lhs; rw [e]
    rw [List.flatMap_append, List.flatMap_cons]
  rw [e2, List.length_append, List.length_append, List.length_append, List.length_take]
  omega
/-- [g(x, j) for x in xs for j in range(n(x))] -/
theorem we_lc2LR {α : Type} {f : α → D} {gg : α → Nat → D} {n : α → Nat} (hne : sO ≠ sI) (h : We K E e tl ρ B fun d B1 => ∃ xs : List α, d = .lst (xs.map f) ∧ (xs.flatMap fun x => (List.range (n x)).map (gg x)).length < sizeLine ∧
    (∀ x ∈ xs, n x < 2 ^ 60 ∧ ∀ ka : List D → Int → Prop, ka [.int (n x)] B1 → Wa K E1 noE t (((ρ.set sI none).set sO none).set sO (some (f x))) B1 ka) ∧
    (∀ x ∈ xs, ∀ j, j < n x → ∀ k' : KD, k' (gg x j) B1 → We K E1 noE te (((((ρ.set sI none).set sO none).set sO (some (f x))).set sI none).set sI (some (.int (0 + (j : Int))))) B1 k') ∧
    k (.lst (xs.flatMap fun x => (List.range (n x)).map (gg x))) B1) :
    We K E e (tLc2 (iList K tl) (gName sO) tYes (iRng1 t) (gName sI) tYes te [sO, sI] [sI]) ρ B k := fun σ H G Q s en x q =>
  h σ H G _ s en x fun d v B1 G1 H1 ⟨xs, ed, hz, hn, hs, hk⟩ e1 r1 => by
    subst ed
    obtain ⟨a, us, rfl, ha, hr⟩ := r1
    have hlen : us.length = xs.length := by rw [← hr.length, List.length_map]
    have en1 := en.mono e1.le
    refine ⟨a, rfl, ⟨us, SqL.of (e1.sub _ _ ha)⟩, fun L nL => ?_⟩
    refine ⟨fun i m H' => m = us.length - i ∧ i ≤ us.length ∧ LcOk K (fun out B => out = (xs.take i).flatMap (fun x => (List.range (n x)).map (gg x)) ∧ B = B1) L G1 H1 B1 H', ⟨us.length, rfl, Nat.zero_le _, lc_start e1.sub nL ⟨by simp, rfl⟩⟩, ?_⟩
    rintro i m H' ⟨rfl, hi, hP⟩
    have hSq : SqL K H' a us := SqL.of (hP.kept ha nopen_lst)
    by_cases hlt : i < us.length
    · have hu : us[i]? = some us[i] := List.getElem?_eq_getElem hlt
      obtain ⟨dx, hdx, rx⟩ := hr.get' hu
      rw [List.getElem?_map] at hdx
      obtain ⟨z, hx, ez⟩ := Option.map_eq_some_iff.mp hdx
      subst ez
      have hm := List.mem_of_getElem? hx
      refine .inr ⟨⟨us, us[i], hSq, hu⟩, fun H2 => LcOk K (fun out B => out = (xs.take (i + 1)).flatMap (fun x => (List.range (n x)).map (gg x)) ∧ B = B1) L G1 H1 B1 H2, fun H2 p' => ⟨us.length - (i + 1), by omega, rfl, hlt, p'⟩, fun w H2 y => ?_⟩
      obtain ⟨rfl, y⟩ := y
      have ew : w = us[i] := by
        have := y us hSq
        rw [hu] at this
        exact (Option.some.inj this).symm
      subst ew
      refine ⟨?_, ?_⟩
      · show ((((σ.set sI none).set sO none).set sO (some us[i])).set sI none).set sO none = (σ.set sI none).set sO none
        rw [List.set_set, List.set_comm _ _ hne, List.set_set, List.set_set]
      unfold tYes
      dsimp only
      rw [if_pos rfl]
      obtain ⟨out, B', G', acc, ⟨eo, eB⟩, e2, gL, hL, hr2⟩ := hP
      subst eB
      have en2 : EnvR K G' B' (((ρ.set sI none).set sO none).set sO (some (f z))) (((σ.set sI none).set sO none).set sO (some us[i])) := EnvR.set (rx.mono e2.le) sO (EnvR.wipe1 sO (EnvR.wipe1 sI (en1.mono e2.le)))
      obtain ⟨hn1, hn2⟩ := hn z hm
      refine hn2 (fun as B2 => as = [.int (n z)] ∧ B2 = B') ⟨rfl, rfl⟩ _ _ G' _ e2.sub en2 XOk.no fun as vs B3 G3 H3 ⟨eas, eB⟩ e3 r3 => ?_
      subst eas eB
      obtain ⟨v0, _, rfl, rv, rfl⟩ := r3
      rw [show v0 = _ from rv]
      have p60 : ((n z : Nat) : Int) < 2 ^ 62 := by omega
      refine ⟨_, rfl, by omega, p60, ?_⟩
      obtain ⟨z1, z2⟩ := e3.fr L _ hL gL ⟨(fun _ z => nomatch z), fun _ z => nomatch z⟩
      rw [Int.toNat_natCast]
      have start : LcOk K (fun out B => out = (xs.take i).flatMap (fun x => (List.range (n x)).map (gg x)) ++ ((List.range (n z)).map (gg z)).take 0 ∧ B = B3) L G1 H1 B3 H3 := ⟨out, B3, G3, acc, ⟨by rw [eo]; simp, rfl⟩, e2.trans e3, z2, z1, hr2.mono e3.le⟩
      refine ⟨fun j k' H4 => k' = n z - j ∧ j ≤ n z ∧ LcOk K (fun out B => out = (xs.take i).flatMap (fun x => (List.range (n x)).map (gg x)) ++ ((List.range (n z)).map (gg z)).take j ∧ B = B3) L G1 H1 B3 H4, ⟨n z, rfl, Nat.zero_le _, start⟩, ?_⟩
      rintro j k' H4 ⟨rfl, hj, hP4⟩
      by_cases hjl : j < n z
      · refine .inr ⟨hjl, fun H5 => LcOk K (fun out B => out = (xs.take i).flatMap (fun x => (List.range (n x)).map (gg x)) ++ ((List.range (n z)).map (gg z)).take (j + 1) ∧ B = B3) L G1 H1 B3 H5, fun H5 p' => ⟨n z - (j + 1), by omega, rfl, hjl, p'⟩, fun w5 H5 y5 => ?_⟩
        obtain ⟨rfl, rfl⟩ := y5
        refine ⟨?_, ?_⟩
        · show (((((σ.set sI none).set sO none).set sO (some us[i])).set sI none).set sI (some (V.int (0 + (j : Int))))).set sI none = (((σ.set sI none).set sO none).set sO (some us[i])).set sI none
          rw [List.set_set, List.set_set]
        rw [if_pos rfl]
        obtain ⟨out4, B4, G4, acc4, ⟨eo4, eB4⟩, e4, gL4, hL4, hr4⟩ := hP4
        subst eB4
        have en4 : EnvR K G4 B4 (((((ρ.set sI none).set sO none).set sO (some (f z))).set sI none).set sI (some (.int (0 + (j : Int))))) (((((σ.set sI none).set sO none).set sO (some us[i])).set sI none).set sI (some (V.int (0 + (j : Int))))) := EnvR.set (d := .int (0 + (j : Int))) rfl sI (EnvR.wipe1 sI (EnvR.set (rx.mono e4.le) sO (EnvR.wipe1 sO (EnvR.wipe1 sI (en1.mono e4.le)))))
        refine hs z hm j hjl (fun d B2 => d = gg z j ∧ B2 = B4) ⟨rfl, rfl⟩ _ _ G4 _ e4.sub en4 XOk.no fun d u B6 G6 H6 ⟨ed, eB⟩ e6 r6 => ?_
        subst ed eB
        obtain ⟨y1, y2⟩ := e6.fr L _ hL4 gL4 ⟨(fun _ z => nomatch z), fun _ z => nomatch z⟩
        have hlen2 : acc4.length < sizeLine := by
          rw [← hr4.length, eo4]
          have := flat_le (f := fun x => (List.range (n x)).map (gg x)) hx j
          omega
        have est : ((List.range (n z)).map (gg z)).take j ++ [gg z j] = ((List.range (n z)).map (gg z)).take (j + 1) := map_stepP (f := gg z) (by rw [List.getElem?_range hjl])
        refine ⟨acc4, y1, hlen2, out4 ++ [gg z j], B6, G6, acc4 ++ [u], ⟨by rw [eo4, List.append_assoc, est], rfl⟩, ?_, y2, upd_same, (hr4.mono e6.le).append ⟨u, [], rfl, r6, rfl⟩⟩
        have eA := e4.trans e6
        refine ⟨eA.le, fun a o z => ?_, fun a o z n t => ?_⟩
        · have : a ≠ L := fun q => by rw [q, y2] at z; cases z
          rw [upd_ne this]; exact eA.sub _ _ z
        · have : a ≠ L := ne_of_none z nL
          rw [upd_ne this]
          exact eA.fr _ _ z n t
      · have ej : j = n z := by omega
        subst ej
        refine .inl ⟨Nat.le_refl _, ?_⟩
        obtain ⟨out4, B4, G4, acc4, ⟨eo4, eB4⟩, e4, gL4, hL4, hr4⟩ := hP4
        refine ⟨out4, B4, G4, acc4, ⟨?_, eB4⟩, e4, gL4, hL4, hr4⟩
        have full : ((List.range (n z)).map (gg z)).take (n z) = (List.range (n z)).map (gg z) := List.take_of_length_le (by rw [List.length_map, List.length_range]; exact Nat.le_refl _)
        rw [eo4, flat_step hx, full]
    · have ei : i = us.length := by omega
      subst ei
      refine .inl ⟨⟨us, hSq, Nat.le_refl _⟩, ?_⟩
      refine lc_end e1 nL hP (fun out B' hI => ?_) q
      obtain ⟨eo, eB⟩ := hI
      subst eB
      rw [eo, List.take_of_length_le (by omega)]
      exact hk
/-! ### parts of a list or tuple -/
/-- a slice's bound -/
def Wo (K : PySem.W.Frag) (E : XK) (e : EW) (t : TO) (ρ : List (Option D)) (B : Int) (k : Option Int → Int → Prop) : Prop := ∀ σ H G (Q : Option Int → Hp → Prop), Sub G H → EnvR K G B ρ σ → XOk K E e G H B → (∀ o B' G' H', k o B' → Ext G H B G' H' B' → Q o H') → t σ H Q
theorem wo_no {k : Option Int → Int → Prop} (h : k none B) : Wo K E e tNoPart ρ B k := fun σ H G Q s en x q => q _ _ _ _ h (Ext.refl s)
theorem wo_part {k : Option Int → Int → Prop} (h : We K E e ta ρ B fun d B1 => ∃ i, d = .int i ∧ k (some i) B1) : Wo K E e (tPart ta) ρ B k := fun σ H G Q s en x q =>
  h σ H G _ s en x fun d v B1 G1 H1 ⟨i, ed, hk⟩ e1 r1 => by
    subst ed
    exact ⟨i, r1, q _ _ _ _ hk e1⟩
def cutD (ds : List D) (lo hi : Option Int) : List D := (ds.drop (HT.sIx ds.length 0 lo)).take (HT.sIx ds.length ds.length hi - HT.sIx ds.length 0 lo)
theorem RepL.cut {G : Hp} {ds : List D} {vs : List V} (h : RepL K G B ds vs) (lo hi : Option Int) : RepL K G B (cutD ds lo hi) (cutV vs lo hi) := by
  unfold cutD cutV
  rw [← h.length]
  exact (h.drop _).take _
variable {tlo thi : TO}
theorem we_slL (h : We K E e ta ρ B fun d B1 => ∃ ds, d = .lst ds ∧ Wo K E e tlo ρ B1 fun lo B2 => Wo K E e thi ρ B2 fun hi B3 => k (.lst (cutD ds lo hi)) B3) : We K E e (tSl (rSlL K) ta tlo thi) ρ B k := fun σ H G Q s en x q =>
  h σ H G _ s en x fun d v B1 G1 H1 ⟨ds, ed, h1⟩ e1 r1 => by
    subst ed
    refine h1 σ H1 G1 _ e1.sub (en.mono e1.le) (x.ext e1) fun lo B2 G2 H2 h2 e2 => ?_
    refine h2 σ H2 G2 _ e2.sub (en.mono (e1.trans e2).le) (x.ext (e1.trans e2)) fun hi B3 G3 H3 hk e3 => ?_
    obtain ⟨a, vs, rfl, ha, hr⟩ := r1.mono (e2.trans e3).le
    exact ⟨a, vs, rfl, SqL.of (e3.sub _ _ ha), fun p np => q _ _ _ _ _ hk ((e1.trans (e2.trans e3)).trans (Ext.new (B := B3) e3.sub np)) ⟨p, _, rfl, upd_same, (hr.cut lo hi).mono (Ext.new (B := B3) e3.sub np).le⟩⟩
theorem we_slT (h : We K E e ta ρ B fun d B1 => ∃ ds, d = .tup ds ∧ Wo K E e tlo ρ B1 fun lo B2 => Wo K E e thi ρ B2 fun hi B3 => ¬ (HT.sIx ds.length 0 lo = 0 ∧ HT.sIx ds.length ds.length hi = ds.length) ∧ k (.tup (cutD ds lo hi)) B3) : We K E e (tSl (rSlT K) ta tlo thi) ρ B k := fun σ H G Q s en x q =>
  h σ H G _ s en x fun d v B1 G1 H1 ⟨ds, ed, h1⟩ e1 r1 => by
    subst ed
    refine h1 σ H1 G1 _ e1.sub (en.mono e1.le) (x.ext e1) fun lo B2 G2 H2 h2 e2 => ?_
    refine h2 σ H2 G2 _ e2.sub (en.mono (e1.trans e2).le) (x.ext (e1.trans e2)) fun hi B3 G3 H3 ⟨hw, hk⟩ e3 => ?_
    obtain ⟨a, vs, rfl, ha, hr⟩ := r1.mono (e2.trans e3).le
    rw [hr.length] at hw
    exact ⟨a, vs, rfl, (Le.of_sub (B := B3) (B' := B3) e3.sub (Int.le_refl _)).seqT ha, hw, fun p np => q _ _ _ _ _ hk ((e1.trans (e2.trans e3)).trans (Ext.new (B := B3) e3.sub np)) ⟨p, _, rfl, SqT.of upd_same, (hr.cut lo hi).mono (Ext.new (B := B3) e3.sub np).le⟩⟩
theorem ro_ixSq {ds : List D} {i : Int} {d : D} (b : Bool) (h : atI ds i = some d) (hk : k d B) : Ro K E e (rIx K) (seqD b ds) (.int i) B k := fun x y H G Q s r1 r2 ex q => by
  cases b with
  | false => exact .inl (ro_ixL (E := E) (e := e) h hk x y H G Q s r1 r2 ex q)
  | true => exact .inr (.inl (ro_ixT (E := E) (e := e) h hk x y H G Q s r1 r2 ex q))
theorem ro_ninT {a : D} {ds : List D} (oa : pyOk a = true) (ob : pyOkL ds = true) (sa : SeqAt.shaped (py a) = true) (sb : SeqAt.shaped (.tuple (pyL ds)) = true) (h : k (.bl (!(pyL ds).any fun z => PyData.eqv z (py a))) B) : Ro K E e (rNinT K) a (.tup ds) B k := fun x y H G Q s r1 r2 _ q =>
  ⟨_, _, Rep.dp s r1 oa, Rep.dp (d := .tup ds) s r2 ob, sa, sb, q (.bl _) _ _ _ _ h (Ext.refl s) rfl⟩
/-! ### a list owned for a while, further -/
variable {i j : Nat} {ds : List D} {us tbody : TS} {κo : KO} {tb : TE}
theorem RepL.set {G : Hp} {d : D} {v : V} (rv : Rep K G B d v) : ∀ {ds : List D} {vs : List V} (n : Nat), RepL K G B ds vs → RepL K G B (ds.set n d) (vs.set n v)
  | [], _, _, h => by rw [show _ = _ from h]; exact rfl
  | _ :: _, _, 0, ⟨_, w, rfl, _, h1⟩ => ⟨v, w, rfl, rv, h1⟩
  | _ :: _, _, n + 1, ⟨v0, w, rfl, h0, h1⟩ => ⟨v0, w.set n v, rfl, h0, RepL.set rv n h1⟩
/-- x[j] = e, no look at the list in either -/
theorem wo_item (h : We K E e ta ρ B fun d B1 => We K E e tb ρ B1 fun c B2 => ∃ n : Nat, c = .int n ∧ n < ds.length ∧ κo.nx ρ (ds.set n d) B2) : Wso K E e (tAsg ta (gSub (tVar i) tb rSetL)) ρ B i ds κo := fun σ H G Dn G0 H0 B0 p vs s en hp np gp hL hr ex x q => by
  refine h σ H G _ s en (x.ext ex) fun d v B1 G1 H1 hb e1 rv => ?_
  refine ⟨.ref p, hp, ?_⟩
  refine hb σ H1 G1 _ e1.sub (en.mono e1.le) ((x.ext ex).ext e1) fun c w B2 G2 H2 ⟨n, ec, hn, hk⟩ e2 rw_ => ?_
  subst ec
  rw [show w = _ from rw_]
  have e12 := e1.trans e2
  obtain ⟨z1, z2⟩ := e12.fr p _ hL gp ⟨(fun _ z => nomatch z), fun _ z => nomatch z⟩
  have hvl : ds.length = vs.length := hr.length
  have hix : ixN vs.length (n : Int) = some n := by
    unfold ixN
    rw [if_pos (by omega), if_pos (by omega), Int.toNat_natCast]
  refine ⟨p, vs, (n : Int), n, rfl, rfl, z1, hix, ?_⟩
  have eA := ex.trans e12
  refine q.nx _ _ σ B2 G2 (upd H2 p (.lst (vs.set n v))) _ hk ⟨eA.le, fun a o z => ?_, fun a o z n t => ?_⟩ (en.mono e12.le) hp z2 upd_same (RepL.set (rv.mono e2.le) n (hr.mono e12.le))
  · rw [upd_ne (ne_of_none z z2)]; exact e12.sub _ _ z
  · rw [upd_ne (ne_of_none z np)]; exact eA.fr _ _ z n t
/-- x = [..] * n, owned -/
theorem wb_startRep (hi : i < ρ.length) (h : We K E e ta ρ B fun d B1 => ∃ xs, d = .lst xs ∧ We K E e tb ρ B1 fun c B2 => ∃ n : Int, c = .int n ∧ -(2 ^ 63) ≤ n ∧ n < 2 ^ 63 ∧ xs.length * n.toNat ≤ sizeLine ∧ Wsb K E e us (ρ.set i none) B2 i (List.replicate n.toNat xs).flatten κ) : Ws K E e (tSeq (tAsg (tOp rRep ta tb) (gName i)) us) ρ B κ := fun σ H G Dn s en x q =>
  h σ H G _ s en x fun d v B1 G1 H1 ⟨xs, ed, h1⟩ e1 r1 => by
    subst ed
    refine h1 σ H1 G1 _ e1.sub (en.mono e1.le) (x.ext e1) fun c w B2 G2 H2 ⟨n, ec, n0, n1, hl, hb⟩ e2 rw_ => ?_
    subst ec
    rw [show w = _ from rw_]
    obtain ⟨a, vs, rfl, ha, hr⟩ := r1.mono e2.le
    have e12 := e1.trans e2
    have rep : ∀ m : Nat, RepL K G2 B2 (List.replicate m xs).flatten (List.replicate m vs).flatten := by
      intro m
      induction m with
      | zero => exact rfl
      | succ m ih =>
        rw [List.replicate_succ, List.replicate_succ, List.flatten_cons, List.flatten_cons]
        exact hr.append ih
    refine ⟨a, n, vs, rfl, rfl, e2.sub _ _ ha, n0, n1, by rw [← hr.length]; exact hl, fun p np => ?_⟩
    have g : G2 p = none := by
      cases z : G2 p with
      | none => rfl
      | some u => rw [e2.sub _ _ z] at np; cases np
    have ex : Ext G2 H2 B2 G2 (upd H2 p (.lst (List.replicate n.toNat vs).flatten)) B2 := Ext.hid e2.sub np
    have en1 : EnvR K G2 B2 (ρ.set i none) (σ.set i (some (.ref p))) := EnvR.weakAt i (en.mono e12.le)
    refine hb _ _ G2 Dn G2 H2 B2 p _ ex.sub en1 ?_ np g upd_same (rep _) ex (x.ext e12) (q.ext e12)
    rw [List.getElem?_set_self (by rw [← en.len]; exact hi)]
/-- for x, y in zip(list, list), a list owned -/
theorem wo_for_zipL (h : Wa K E e t ρ B fun as B1 => ∃ xs ys : List D, as = [.lst xs, .lst ys] ∧ xs.length = ys.length ∧ ∃ I : Nat → List (Option D) → List D → Int → Prop, I 0 ρ ds B1 ∧ (∀ j x y ρ' ds' B', xs[j]? = some x → ys[j]? = some y → I j ρ' ds' B' → ∀ p : Addr, Wg K g (.tup [x, y]) (ρ'.set i (some (.val (.ref p)))) B' fun ρ2 B2 => ρ2[i]? = some (some (.val (.ref p))) ∧ Wso K E e tbody (ρ2.set i none) B2 i ds' { nx := I (j + 1), rt := κo.rt, bk := κo.nx, ct := I (j + 1) }) ∧ ∀ ρ' ds' B', I xs.length ρ' ds' B' → κo.nx ρ' ds' B') :
    Wso K E e (tFor (iZipA K t) g tbody) ρ B i ds κo := fun σ H G Dn G0 H0 B0 p vs sb en hp np gp hL hr ex x q => by
  refine h σ H G _ sb en (x.ext ex) fun as ws B1 G1 H1 ⟨xs, ys, ed, hl, I, i0, hs, hd⟩ e1 r1 => ?_
  subst ed
  obtain ⟨_, _, rfl, ⟨a, us, rfl, ha, hru⟩, _, _, rfl, ⟨b, ws, rfl, hb, hrw⟩, rfl⟩ := r1
  have hul : us.length = ws.length := by rw [← hru.length, ← hrw.length]; exact hl
  obtain ⟨z1, z2⟩ := e1.fr p _ hL gp ⟨(fun _ z => nomatch z), fun _ z => nomatch z⟩
  have eb := (ex.trans e1).base np z2
  refine ⟨a, b, us, ws, rfl, .inl ⟨SqL.of (e1.sub _ _ ha), SqL.of (e1.sub _ _ hb), ?_⟩⟩
  refine for_zip (Sq := SqL K) (xs := us) (ys := ws) hul (fun j => OSt K (I j) i p G1 (del H1 p) B1) ⟨ρ, ds, B1, G1, vs, i0, Ext.back e1.sub, en.mono e1.le, hp, z2, z1, hr.mono e1.le⟩ (fun j σ' H' _ ⟨_, _, _, G', _, _, e2, _⟩ => ⟨SqL.of (e2.sub _ _ (e2.le.keep _ _ ha nopen_lst)), SqL.of (e2.sub _ _ (e2.le.keep _ _ hb nopen_lst))⟩) ?_ ?_
  · rintro j v w T σ' H' hi hi2 ⟨ρ', ds', B', G', vs', hI, e2, en2, hp', gp', hL', hr'⟩ hT
    obtain ⟨dx, hdx, rx⟩ := hru.get' hi
    obtain ⟨dy, hdy, ry⟩ := hrw.get' hi2
    have gT : G' T = none := by
      cases z : G' T with
      | none => rfl
      | some u => rw [e2.sub _ _ z] at hT; cases hT
    have e3 := Ext.new (B := B') (o := .tup [v, w]) e2.sub hT
    have hpT : p ≠ T := ne_of_none hL' hT
    exact wo_round (x := .tup [dx, dy]) (hs j dx dy ρ' ds' B' hdx hdy hI) delD_same (e2.trans e3) (en2.mono e3.le) hp' (by rw [upd_ne hpT]; exact gp') (by rw [upd_ne hpT]; exact hL') (hr'.mono e3.le) ⟨T, [v, w], rfl, SqT.of upd_same, v, [w], rfl, (rx.mono e2.le).mono e3.le, w, [], rfl, (ry.mono e2.le).mono e3.le, rfl⟩ (x.ext eb) (q.ext eb) OSt.ok
  · rintro σ' H' ⟨ρ', ds', B', G', vs', hI, e2, en2, hp', gp', hL', hr'⟩
    rw [← hru.length] at hI
    exact q.nx _ _ _ _ _ _ _ (hd _ _ _ hI) (eb.trans e2) en2 hp' gp' hL' hr'
end
end AW

set_option linter.all false
set_option maxRecDepth 100000
set_option maxHeartbeats 4000000
namespace AW
open PySem PySem.Spec PyProof.Rows L2 RZ
variable [Tbs]
/-! lists owned from a comprehension on, or from a parallel assignment; filters over a range; any -/
section
variable {K : PySem.W.Frag} {E E' E1 : XK} {e : EW} {ρ : List (Option D)} {B : Int} {k : KD} {κ : KS} {κo : KO} {ta tb tl te : TE} {tt : TT} {t : TA} {ts us : TS} {g : TG} {i j sl : Nat} {ds : List D}
/-- x = [g(y) for y in ys], owned -/
theorem wb_lcL {α : Type} {f g : α → D} (hi : i < ρ.length) (h : We K E e tl ρ B fun d B1 => ∃ xs : List α, d = .lst (xs.map f) ∧ xs.length < sizeLine ∧ (∀ x ∈ xs, ∀ k' : KD, k' (g x) B1 → We K E1 noE te ((ρ.set sl none).set sl (some (f x))) B1 k') ∧ Wsb K E e us (ρ.set i none) B1 i (xs.map g) κ) :
    Ws K E e (tSeq (tAsg (tLc (iList K tl) (gName sl) tYes te [sl]) (gName i)) us) ρ B κ := fun σ H G Dn s en x q =>
  h σ H G _ s en x fun d v B1 G1 H1 ⟨xs, ed, jl, hs, hd⟩ e1 r1 => by
    subst ed
    obtain ⟨a, vs, rfl, ha, hr⟩ := r1
    refine ⟨a, rfl, ⟨vs, SqL.of (e1.sub _ _ ha)⟩, fun L nL => ?_⟩
    have hlen := hr.length
    rw [List.length_map] at hlen
    refine lc_list (xs := vs) (fun m H' => LcOk K (fun out B => out.length ≤ m ∧ (out = (xs.take m).map g ∧ B1 = B)) L G1 H1 B1 H') (lc_start e1.sub nL ⟨Nat.le_refl _, rfl, rfl⟩) (fun m H' _ z => SqL.of (z.kept ha nopen_lst)) ?_ ?_
    · intro m y H' hm hz
      obtain ⟨dx, hdx, rx⟩ := hr.get' hm
      have hlt : m < vs.length := (List.getElem?_eq_some_iff.mp hm).1
      rw [List.getElem?_map] at hdx
      obtain ⟨z, hz1, hz2⟩ := Option.map_eq_some_iff.mp hdx
      subst hz2
      refine lc_step (E1 := E1) (I := fun m out B => out = (xs.take m).map g ∧ B1 = B) nL e1.sub (en.mono e1.le) hz (by omega) rx (fun out B' hI => ?_)
      obtain ⟨eo, eB⟩ := hI
      subst eo eB
      refine wt_yes ⟨fun _ => hs z (List.mem_of_getElem? hz1) _ ⟨?_, rfl⟩, fun z => nomatch z⟩
      rw [List.take_add_one, hz1, List.map_append]
      rfl
    · intro H' hz
      obtain ⟨out, B', G', acc, hI, e2, gL, hL, hr2⟩ := hz
      obtain ⟨_, eo, eB⟩ := hI
      subst eo eB
      have en1 : EnvR K G' B1 (ρ.set i none) (σ.set i (some (.ref L))) := EnvR.weakAt i (en.mono (e1.trans e2).le)
      rw [← hlen, List.take_length] at hr2
      refine hd _ H' G' Dn G1 H1 B1 L acc e2.sub en1 ?_ nL gL hL hr2 e2 (x.ext e1) (q.ext e1)
      rw [List.getElem?_set_self (by rw [← en.len]; exact hi)]
/-- x, y = e, [] : the list owned -/
theorem wb_startPar (hij : j ≠ i) (hi : i < ρ.length) (h : We K E e ta ρ B fun d B1 => Wsb K E e us ((ρ.set j (some d)).set i none) B1 i [] κ) : Ws K E e (tSeq (tPar j i (tCons ta (tCons (tLst tNil) tNil))) us) ρ B κ := fun σ H G Dn s en x q =>
  h σ H G _ s en x fun d v B1 G1 H1 hb e1 r1 => ⟨by decide, fun p np => by
    have g : G1 p = none := by
      cases z : G1 p with
      | none => rfl
      | some u => rw [e1.sub _ _ z] at np; cases np
    have ex : Ext G1 H1 B1 G1 (upd H1 p (.lst [])) B1 := Ext.hid e1.sub np
    have en1 : EnvR K G1 B1 ((ρ.set j (some d)).set i none) ((σ.set j (some v)).set i (some (.ref p))) := EnvR.weakAt i (EnvR.set r1 j (en.mono e1.le))
    refine ⟨v, .ref p, rfl, hb _ _ G1 Dn G1 H1 B1 p [] ex.sub en1 ?_ np g upd_same rfl ex (x.ext e1) (q.ext e1)⟩
    rw [List.getElem?_set_self (by rw [List.length_set, ← en.len]; exact hi)]⟩
/-- a, b, c = e with a look at the list owned; e is a tuple of integers -/
theorem wb_asg3R {j1 j2 j3 : Nat} (h1 : j1 ≠ i) (h2 : j2 ≠ i) (h3 : j3 ≠ i) (h : We K E e ta (ρ.set i (some (.lst ds))) B fun d B1 => ∃ a b c : Int, d = .tup [.int a, .int b, .int c] ∧ Wsb K E e us (((ρ.set j1 (some (.int a))).set j2 (some (.int b))).set j3 (some (.int c))) B1 i ds κ) : Wsb K E e (tSeq (tAsg ta (gTup K 3 (gCons (gName j1) (gCons (gName j2) (gCons (gName j3) gNil))))) us) ρ B i ds κ := fun σ H G Dn G0 H0 B0 p vs s en hp np gp hL hr ex x q => by
  have le : Le G B (upd G p (.lst vs)) B := Le.of_sub (fun a o z => by rw [upd_ne (ne_of_none z gp)]; exact z) (Int.le_refl _)
  have sp : Sub (upd G p (.lst vs)) H := fun a o z => by
    by_cases w : a = p
    · subst w; rw [upd_same] at z; cases z; exact hL
    · rw [upd_ne w] at z; exact s _ _ z
  have e0 : Ext G0 H0 B0 (upd G p (.lst vs)) H B := ⟨ex.le.trans le, sp, fun a o z n t => by
    rw [upd_ne (ne_of_none z np)]
    exact ex.fr _ _ z n t⟩
  have en1 := EnvR.set (d := .lst ds) (v := .ref p) ⟨p, vs, rfl, upd_same, hr.mono le⟩ i (en.mono le)
  rw [set_id hp] at en1
  refine h σ H _ _ sp en1 (x.ext e0) fun d v B1 G1 H1 ⟨a, b, c, ed, hb⟩ e1 rv => ?_
  subst ed
  obtain ⟨T, ws, rfl, hT, va, _, rfl, ra, vb, _, rfl, rb, vc, _, rfl, rc, rfl⟩ := rv
  rw [show va = _ from ra, show vb = _ from rb, show vc = _ from rc] at hT
  refine ⟨T, [.int a, .int b, .int c], rfl, (Le.of_sub (B := B1) (B' := B1) e1.sub (Int.le_refl _)).seqT hT, rfl, _, _, rfl, _, _, rfl, _, _, rfl, rfl, ?_⟩
  have gp1 : G1 p = some (.lst vs) := e1.le.keep p _ upd_same nopen_lst
  let G2 : Hp := fun b => if b = p then none else G1 b
  have g2 : ∀ b, b ≠ p → G2 b = G1 b := fun b hb => if_neg hb
  have g2p : G2 p = none := if_pos rfl
  have s2 : Sub G2 H1 := fun b o z => by
    by_cases w : b = p
    · rw [w, g2p] at z; cases z
    · rw [g2 b w] at z; exact e1.sub _ _ z
  have le2 : Le G B G2 B1 := by
    refine ⟨e1.le.b, fun b o z n => ?_, fun b k l c m r z => ?_, fun z p' hp' => ?_⟩
    · have w : b ≠ p := ne_of_none z gp
      rw [g2 b w]
      exact e1.le.keep b o (by rw [upd_ne w]; exact z) n
    · have w : b ≠ p := ne_of_none z gp
      rw [g2 b w]
      exact e1.le.pen b k l c m r (by rw [upd_ne w]; exact z)
    · obtain ⟨ps, t1, t2, t3⟩ := e1.le.tb (le.tb z) p' hp'
      refine ⟨ps, ?_, t2, fun pos cv hc => ?_⟩
      · rw [g2 _ fun w => by rw [w, gp1] at t1; cases t1]; exact t1
      · obtain ⟨c, y1, y2⟩ := t3 pos cv hc
        refine ⟨c, y1, ?_⟩
        rw [g2 _ fun w => by rw [w, gp1] at y2; unfold LamX.CodeO at y2; cases y2]; exact y2
  have e2 : Ext G0 H0 B0 G2 H1 B1 := ⟨ex.le.trans le2, s2, fun b o z n t => by
    have eA := e0.trans e1
    obtain ⟨y1, y2⟩ := eA.fr b o z n t
    refine ⟨y1, ?_⟩
    rw [g2 b (ne_of_none z np)]
    exact y2⟩
  exact hb _ H1 G2 Dn G0 H0 B0 p vs s2 (EnvR.set (d := .int c) rfl j3 (EnvR.set (d := .int b) rfl j2 (EnvR.set (d := .int a) rfl j1 (en.mono le2)))) (by rw [List.getElem?_set_ne h3, List.getElem?_set_ne h2, List.getElem?_set_ne h1]; exact hp) np g2p (e1.sub _ _ gp1) (hr.mono le2) e2 x q
/-- a state in between -/
theorem wo_cut {s : TS} (J : List (Option D) → List D → Int → Prop) (h1 : Wso K E e s ρ B i ds { κo with nx := J }) (h2 : ∀ ρ' ds' B', J ρ' ds' B' → Wso K E e us ρ' B' i ds' κo) : Wso K E e (tSeq s us) ρ B i ds κo := fun σ H G Dn G0 H0 B0 p vs sb en hp np gp hL hr ex x q =>
  h1 σ H G { Dn with nx := us Dn } G0 H0 B0 p vs sb en hp np gp hL hr ex x ⟨fun ρ' ds' σ' B' G' H' vs' hb ex' en' hp' gp' hL' hr' => h2 _ _ _ hb σ' H' G' Dn G0 H0 B0 p vs' ex'.sub en' hp' np gp' hL' hr' ex' x q, q.rt, q.bk, q.ct⟩
theorem wb_cut {s : TS} (J : List (Option D) → List D → Int → Prop) (h1 : Wso K E e s ρ B i ds { nx := J, rt := κ.rt }) (h2 : ∀ ρ' ds' B', J ρ' ds' B' → Wsb K E e us ρ' B' i ds' κ) : Wsb K E e (tSeq s us) ρ B i ds κ := fun σ H G Dn G0 H0 B0 p vs sb en hp np gp hL hr ex x q =>
  h1 σ H G { Dn with nx := us Dn } G0 H0 B0 p vs sb en hp np gp hL hr ex x ⟨fun ρ' ds' σ' B' G' H' vs' hb ex' en' hp' gp' hL' hr' => h2 _ _ _ hb σ' H' G' Dn G0 H0 B0 p vs' ex'.sub en' hp' np gp' hL' hr' ex' x q, q.rt, fun _ _ _ _ _ _ _ z => z.elim, fun _ _ _ _ _ _ _ z => z.elim⟩
theorem range_step {p : Nat → Bool} {f : Nat → D} {n : Nat} : ((List.range (n + 1)).filter p).map f = ((List.range n).filter p).map f ++ (if p n = true then [f n] else []) := by
  rw [List.range_succ, List.filter_append, List.map_append]
  congr 1
  cases h : p n <;> simp [h]
/-- [j for j in range(n) if p(j)] -/
theorem we_lc_filtR (h : Wa K E e t ρ B fun as B1 => ∃ (n : Nat) (p : Nat → Bool), as = [.int n] ∧ n < sizeLine ∧ n < 2 ^ 62 ∧ (∀ m : Nat, m < n → ∀ kb : Bool → Int → Prop, kb (p m) B1 → Wt K E1 noE tt ((ρ.set sl none).set sl (some (.int (m : Int)))) B1 kb) ∧
    (∀ m : Nat, m < n → ∀ k' : KD, k' (.int (m : Int)) B1 → We K E1 noE te ((ρ.set sl none).set sl (some (.int (m : Int)))) B1 k') ∧ k (.lst (((List.range n).filter p).map fun m : Nat => D.int (m : Int))) B1) :
    We K E e (tLc (iRng1 t) (gName sl) tt te [sl]) ρ B k := we_lc_range1 (E1 := E1) fun σ H G Q s en x q => h σ H G Q s en x fun as vs B1 G1 H1 ⟨n, p, ed, jl, j1, ht, hs, hk⟩ e1 r1 => q as vs B1 G1 H1 ⟨n, ed, by omega, by omega, by omega, fun m out B' => out = ((List.range m).filter p).map (fun m : Nat => D.int (m : Int)) ∧ B' = B1, ⟨rfl, rfl⟩, fun m out B' hm ⟨eo, eB⟩ => by
      subst eB
      rw [Int.zero_add]
      have hm : m < n := by omega
      refine ht m hm _ ⟨fun hb => hs m hm _ ⟨?_, rfl⟩, fun hb => ⟨?_, rfl⟩⟩
      · rw [eo, range_step, hb, if_pos rfl]
      · rw [eo, range_step, hb, if_neg Bool.false_ne_true, List.append_nil], fun out B' _ ⟨eo, eB⟩ => by
      rw [eo, eB, Int.toNat_natCast]
      exact hk⟩ e1 r1
/-- any of them -/
theorem we_any (h : Wa K E e t ρ B fun ds B1 => ∃ bs : List Bool, ds = [.lst (bs.map D.bl)] ∧ k (.bl (bs.any id)) B1) : We K E e (tCB (rAny K) t) ρ B k :=
  we_cb fun σ H G Q s en x q => h σ H G Q s en x fun ds vs B1 G1 H1 ⟨bs, ed, hk⟩ e1 r1 => q ds vs B1 G1 H1 (fun ws H2 G2 Q2 s2 r2 q2 => by
    subst ed
    obtain ⟨v, _, rfl, ⟨a, us, rfl, ha, hr⟩, rfl⟩ := r2
    have z : ∀ (bs : List Bool) (us : List V), RepL K G2 B1 (bs.map D.bl) us → us = bs.map V.bl := by
      intro bs
      induction bs with
      | nil => intro us h; exact h
      | cons b r ih =>
        intro us h
        obtain ⟨v, w, rfl, h1, h2⟩ := h
        rw [show v = _ from h1, ih _ h2]
        rfl
    refine ⟨a, bs, rfl, ?_, q2 _ _ _ _ _ hk (Ext.refl s2) rfl⟩
    rw [← z bs us hr]
    exact SqL.of (s2 _ _ ha)) e1 r1
end
end AW

set_option linter.all false
set_option maxRecDepth 100000
set_option maxHeartbeats 4000000
namespace AW
open PySem PySem.Spec PyProof.Rows L2 RZ
variable [Tbs]
/-! x not in a list; a list against []; two lists owned (a shuffle) -/
section
variable {K : PySem.W.Frag} {E E' E1 : XK} {e : EW} {ρ : List (Option D)} {B : Int} {k : KD} {κ : KS} {κo : KO} {ta tb tl te : TE} {tt : TT} {t : TA} {ts us : TS} {g : TG} {i j sl : Nat} {ds : List D}
theorem ro_ninL {a : D} {ds : List D} (oa : pyOk a = true) (ob : pyOkL ds = true) (sa : SeqAt.shaped (py a) = true) (sb : SeqAt.shaped (.list (pyL ds)) = true) (h : k (.bl (!(pyL ds).any fun z => PyData.eqv z (py a))) B) : Ro K E e (rNinL K) a (.lst ds) B k := fun x y H G Q s r1 r2 _ q =>
  ⟨_, _, Rep.dp s r1 oa, Rep.dp (d := .lst ds) s r2 ob, sa, sb, q (.bl _) _ _ _ _ h (Ext.refl s) rfl⟩
theorem ro_neNil {ds : List D} (h : k (.bl (!ds.isEmpty)) B) : Ro K E e (rNeNil K) (.lst ds) (.lst []) B k := fun x y H G Q s r1 r2 _ q => by
  have d2 := Rep.dp (d := .lst []) s r2 rfl
  obtain ⟨b, ws, rfl, hb, hw⟩ := r2
  have e2 : ws = [] := hw
  subst e2
  have d1 : ds = [] → Dp K H x (.list []) := fun z => by subst z; exact Rep.dp (d := .lst []) s r1 rfl
  obtain ⟨a, vs, rfl, ha, hr⟩ := r1
  have el : vs.isEmpty = ds.isEmpty := by
    have := hr.length
    cases ds <;> cases vs <;> first | rfl | (simp at this)
  refine ⟨a, b, vs, rfl, rfl, SqL.of (s _ _ ha), SqL.of (s _ _ hb), d2, fun z => d1 ?_, ?_⟩
  · subst z
    cases ds with
    | nil => rfl
    | cons => have := hr.length; simp at this
  · rw [el]
    exact q _ _ _ _ _ h (Ext.refl s) rfl
theorem range_stepG {p : Nat → Bool} {f : Nat → D} {n : Nat} : ((List.range (n + 1)).filter p).map f = ((List.range n).filter p).map f ++ (if p n = true then [f n] else []) := by
  rw [List.range_succ, List.filter_append, List.map_append]
  congr 1
  cases h : p n <;> simp [h]
/-- [g(j) for j in range(n) if p(j)] -/
theorem we_lc_filtRG (h : Wa K E e t ρ B fun as B1 => ∃ (n : Nat) (p : Nat → Bool) (g : Nat → D), as = [.int n] ∧ n < sizeLine ∧ n < 2 ^ 62 ∧ (∀ m : Nat, m < n → ∀ kb : Bool → Int → Prop, kb (p m) B1 → Wt K E1 noE tt ((ρ.set sl none).set sl (some (.int (m : Int)))) B1 kb) ∧
    (∀ m : Nat, m < n → p m = true → ∀ k' : KD, k' (g m) B1 → We K E1 noE te ((ρ.set sl none).set sl (some (.int (m : Int)))) B1 k') ∧ k (.lst (((List.range n).filter p).map g)) B1) :
    We K E e (tLc (iRng1 t) (gName sl) tt te [sl]) ρ B k := we_lc_range1 (E1 := E1) fun σ H G Q s en x q => h σ H G Q s en x fun as vs B1 G1 H1 ⟨n, p, g, ed, jl, j1, ht, hs, hk⟩ e1 r1 => q as vs B1 G1 H1 ⟨n, ed, by omega, by omega, by omega, fun m out B' => out = ((List.range m).filter p).map g ∧ B' = B1, ⟨rfl, rfl⟩, fun m out B' hm ⟨eo, eB⟩ => by
      subst eB
      rw [Int.zero_add]
      have hm : m < n := by omega
      refine ht m hm _ ⟨fun hb => hs m hm hb _ ⟨?_, rfl⟩, fun hb => ⟨?_, rfl⟩⟩
      · rw [eo, range_stepG, hb, if_pos rfl]
      · rw [eo, range_stepG, hb, if_neg Bool.false_ne_true, List.append_nil], fun out B' _ ⟨eo, eB⟩ => by
      rw [eo, eB, Int.toNat_natCast]
      exact hk⟩ e1 r1
/-- the list lent is taken back -/
theorem unlend {G0 H0 G H G1 H1 : Hp} {B0 B1 : Int} {p : Addr} {vs : List V} (ex : Ext G0 H0 B0 G H B) (np : H0 p = none) (gp : G p = none) (hL : H p = some (.lst vs)) (e1 : Ext (upd G p (.lst vs)) H B G1 H1 B1) : ∃ G2 : Hp, (∀ b, b ≠ p → G2 b = G1 b) ∧ G2 p = none ∧ Sub G2 H1 ∧ Le G B G2 B1 ∧ Ext G0 H0 B0 G2 H1 B1 ∧ H1 p = some (.lst vs) := by
  have le : Le G B (upd G p (.lst vs)) B := Le.of_sub (fun a o z => by rw [upd_ne (ne_of_none z gp)]; exact z) (Int.le_refl _)
  have sp : Sub (upd G p (.lst vs)) H := fun a o z => by
    by_cases w : a = p
    · subst w; rw [upd_same] at z; cases z; exact hL
    · rw [upd_ne w] at z; exact ex.sub _ _ z
  have e0 : Ext G0 H0 B0 (upd G p (.lst vs)) H B := ⟨ex.le.trans le, sp, fun a o z n t => by
    rw [upd_ne (ne_of_none z np)]
    exact ex.fr _ _ z n t⟩
  have gp1 : G1 p = some (.lst vs) := e1.le.keep p _ upd_same nopen_lst
  let G2 : Hp := fun b => if b = p then none else G1 b
  have g2 : ∀ b, b ≠ p → G2 b = G1 b := fun b hb => if_neg hb
  have g2p : G2 p = none := if_pos rfl
  have s2 : Sub G2 H1 := fun b o z => by
    by_cases w : b = p
    · rw [w, g2p] at z; cases z
    · rw [g2 b w] at z; exact e1.sub _ _ z
  have le2 : Le G B G2 B1 := by
    refine ⟨e1.le.b, fun b o z n => ?_, fun b k l c m r z => ?_, fun z p' hp' => ?_⟩
    · have w : b ≠ p := ne_of_none z gp
      rw [g2 b w]
      exact e1.le.keep b o (by rw [upd_ne w]; exact z) n
    · have w : b ≠ p := ne_of_none z gp
      rw [g2 b w]
      exact e1.le.pen b k l c m r (by rw [upd_ne w]; exact z)
    · obtain ⟨ps, t1, t2, t3⟩ := e1.le.tb (le.tb z) p' hp'
      refine ⟨ps, ?_, t2, fun pos cv hc => ?_⟩
      · rw [g2 _ fun w => by rw [w, gp1] at t1; cases t1]; exact t1
      · obtain ⟨c, y1, y2⟩ := t3 pos cv hc
        refine ⟨c, y1, ?_⟩
        rw [g2 _ fun w => by rw [w, gp1] at y2; unfold LamX.CodeO at y2; cases y2]; exact y2
  exact ⟨G2, g2, g2p, s2, le2, ⟨ex.le.trans le2, s2, fun b o z n t => by
    have eA := e0.trans e1
    obtain ⟨y1, y2⟩ := eA.fr b o z n t
    refine ⟨y1, ?_⟩
    rw [g2 b (ne_of_none z np)]
    exact y2⟩, e1.sub _ _ gp1⟩
theorem lend {G0 H0 G H : Hp} {B0 : Int} {p : Addr} {vs : List V} (ex : Ext G0 H0 B0 G H B) (np : H0 p = none) (gp : G p = none) (hL : H p = some (.lst vs)) : Ext G0 H0 B0 (upd G p (.lst vs)) H B := by
  have le : Le G B (upd G p (.lst vs)) B := Le.of_sub (fun a o z => by rw [upd_ne (ne_of_none z gp)]; exact z) (Int.le_refl _)
  have sp : Sub (upd G p (.lst vs)) H := fun a o z => by
    by_cases w : a = p
    · subst w; rw [upd_same] at z; cases z; exact hL
    · rw [upd_ne w] at z; exact ex.sub _ _ z
  exact ⟨ex.le.trans le, sp, fun a o z n t => by
    rw [upd_ne (ne_of_none z np)]
    exact ex.fr _ _ z n t⟩
theorem Ext.chg {G0 H0 G H : Hp} {B0 : Int} {p : Addr} {o : HO} (ex : Ext G0 H0 B0 G H B) (np : H0 p = none) (gp : G p = none) : Ext G0 H0 B0 G (upd H p o) B :=
  ⟨ex.le, fun a u z => by rw [upd_ne (ne_of_none z gp)]; exact ex.sub _ _ z, fun a u z n t => by rw [upd_ne (ne_of_none z np)]; exact ex.fr _ _ z n t⟩
theorem RepL.eraseIdx {G : Hp} : ∀ {ds : List D} {vs : List V} (n : Nat), RepL K G B ds vs → RepL K G B (ds.eraseIdx n) (vs.eraseIdx n)
  | [], _, _, h => by rw [show _ = _ from h]; exact rfl
  | _ :: _, _, 0, ⟨_, w, rfl, _, h1⟩ => h1
  | _ :: _, _, n + 1, ⟨v0, w, rfl, h0, h1⟩ => ⟨v0, w.eraseIdx n, rfl, h0, RepL.eraseIdx n h1⟩
/-- free, found = list(e), []; while free != []: found.append(free.pop(k)) -/
theorem ws_shuf {iF iO : Nat} (hne : iF ≠ iO) (hF : iF < ρ.length) (hO : iO < ρ.length)
    (h : We K E e tl ρ B fun d B1 => ∃ ds : List D, d = .lst ds ∧ ds.length < sizeLine ∧ ∃ J : List D → List D → Int → Prop, J ds [] B1 ∧
      (∀ fs os B', fs ≠ [] → J fs os B' → We K E e ta (((ρ.set iF none).set iO none).set iF (some (.lst fs))) B' fun c B2 => ∃ (n : Nat) (y : D), c = .int n ∧ n < 2 ^ 62 ∧ fs[n]? = some y ∧ J (fs.eraseIdx n) (os ++ [y]) B2) ∧
      (∀ os B', J [] os B' → Ws K E e us (((ρ.set iF none).set iO none).set iO (some (.lst os))) B' κ)) :
    Ws K E e (tSeq (tPar iF iO (tCons (tCB (fun xs H Q => ∃ p ys, xs = [.ref p] ∧ (SqL K H p ys ∨ SqT K H p ys) ∧ ∀ l, H l = none → Q (.ref l) (upd H l (.lst ys))) (tCons tl tNil)) (tCons (tLst tNil) tNil)))
      (tSeq (tWhile (tTest (tOp (rNeNil K) (tVar iF) (tLst tNil))) (tDrop (tBM K "list" rAppend (tVar iO) (tCons (tBM K "list" rPopAt (tVar iF) (tCons ta tNil)) tNil)))) us)) ρ B κ := fun σ H G Dn s en x q =>
  h σ H G _ s en x fun d v B1 G1 H1 ⟨ds, ed, dl, J, j0, hs, hd⟩ e1 r1 => by
    subst ed
    obtain ⟨a, vs0, rfl, ha, hr0⟩ := r1
    refine ⟨a, vs0, rfl, .inl (SqL.of (e1.sub _ _ ha)), fun p np => ⟨by decide, fun p2 np2 => ?_⟩⟩
    have hp2 : p2 ≠ p := fun z => by subst z; rw [upd_same] at np2; cases np2
    have nq : H1 p2 = none := by rw [upd_ne hp2] at np2; exact np2
    have none_of : ∀ {b : Addr}, H1 b = none → G1 b = none := fun {b} nb => by
      cases z : G1 b with
      | none => rfl
      | some u => rw [e1.sub _ _ z] at nb; cases nb
    have gp := none_of np
    have gq := none_of nq
    refine ⟨.ref p, .ref p2, rfl, ?_⟩
    have exA1 : Ext G1 H1 B1 G1 (upd H1 p (.lst vs0)) B1 := Ext.hid e1.sub np
    have exA : Ext G1 H1 B1 G1 (upd (upd H1 p (.lst vs0)) p2 (.lst [])) B1 := exA1.trans (Ext.hid exA1.sub np2)
    have en1 : EnvR K G1 B1 ((ρ.set iF none).set iO none) ((σ.set iF (some (.ref p))).set iO (some (.ref p2))) := EnvR.weakAt iO (EnvR.weakAt iF (en.mono e1.le))
    have hlF : iF < σ.length := by rw [← en.len]; exact hF
    have hlO : iO < σ.length := by rw [← en.len]; exact hO
    generalize eρ : (ρ.set iF none).set iO none = ρ0 at hs hd en1 ⊢
    refine ⟨fun n σ' H' => ∃ fs os B' G' vs ws, fs.length = n ∧ fs.length + os.length = ds.length ∧ J fs os B' ∧ Ext G1 H1 B1 G' H' B' ∧ EnvR K G' B' ρ0 σ' ∧ σ'[iF]? = some (some (.ref p)) ∧ σ'[iO]? = some (some (.ref p2)) ∧ G' p = none ∧ G' p2 = none ∧ H' p = some (.lst vs) ∧ H' p2 = some (.lst ws) ∧ RepL K G' B' fs vs ∧ RepL K G' B' os ws, ⟨ds.length, ds, [], B1, G1, vs0, [], rfl, by simp, j0, exA, en1, ?_, ?_, gp, gq, ?_, upd_same, hr0, rfl⟩, ?_⟩
    · rw [List.getElem?_set_ne (Ne.symm hne), List.getElem?_set_self hlF]
    · rw [List.getElem?_set_self (by rw [List.length_set]; exact hlO)]
    · rw [upd_ne (Ne.symm hp2)]; exact upd_same
    rintro n σ' H' ⟨fs, os, B', G', vs, ws, hn, hlen, hJ, ex, en', hpF, hpO, gp', gq', hLp, hLq, hrF, hrO⟩
    -- the test
    refine ⟨.ref p, hpF, ?_⟩
    refine ⟨by decide, fun b nb => ?_⟩
    have bp : b ≠ p := fun z => by subst z; rw [hLp] at nb; cases nb
    have bq : b ≠ p2 := fun z => by subst z; rw [hLq] at nb; cases nb
    have hb1 : upd H' b (.lst []) b = some (.lst []) := upd_same
    have hb2 : upd H' b (.lst []) p = some (.lst vs) := by rw [upd_ne (Ne.symm bp)]; exact hLp
    have hb3 : upd H' b (.lst []) p2 = some (.lst ws) := by rw [upd_ne (Ne.symm bq)]; exact hLq
    refine ⟨p, b, vs, rfl, rfl, SqL.of hb2, SqL.of hb1, .lst (SqL.of hb1) .nil, fun z => ?_, ?_⟩
    · subst z; exact .lst (SqL.of hb2) .nil
    have exB : Ext G1 H1 B1 G' (upd H' b (.lst [])) B' := ex.trans (Ext.hid ex.sub nb)
    refine ⟨_, rfl, ?_⟩
    cases fs with
    | nil =>
      have e0 : vs = [] := hrF
      subst e0
      show (if (!([] : List V).isEmpty) = true then _ else _)
      rw [if_neg (by simp)]
      have exC := lend exB nq gq' hb3
      have leO : Le G' B' (upd G' p2 (.lst ws)) B' := Le.of_sub (fun a o z => by rw [upd_ne (ne_of_none z gq')]; exact z) (Int.le_refl _)
      have enC := EnvR.set (d := .lst os) (v := .ref p2) ⟨p2, ws, rfl, upd_same, hrO.mono leO⟩ iO (en'.mono leO)
      rw [set_id hpO] at enC
      exact hd os B' hJ _ _ _ Dn exC.sub enC (x.ext (e1.trans exC)) (q.ext (e1.trans exC))
    | cons y0 r0 =>
      have hvs : vs.isEmpty = false := by
        have := hrF.length
        cases vs with
        | nil => simp at this
        | cons => rfl
      rw [hvs, Bool.not_false, if_pos rfl]
      refine ⟨fun σ3 H3 => ∃ n', n' < n ∧ ∃ fs os B' G' vs ws, fs.length = n' ∧ fs.length + os.length = ds.length ∧ J fs os B' ∧ Ext G1 H1 B1 G' H3 B' ∧ EnvR K G' B' ρ0 σ3 ∧ σ3[iF]? = some (some (.ref p)) ∧ σ3[iO]? = some (some (.ref p2)) ∧ G' p = none ∧ G' p2 = none ∧ H3 p = some (.lst vs) ∧ H3 p2 = some (.lst ws) ∧ RepL K G' B' fs vs ∧ RepL K G' B' os ws, fun _ _ z => z, ?_⟩
      refine ⟨.ref p2, hpO, .inl ⟨rfl, ws, SqL.of hb3⟩, ?_⟩
      refine ⟨.ref p, hpF, .inl ⟨rfl, vs, SqL.of hb2⟩, ?_⟩
      have exL := lend exB np gp' hb2
      have leF : Le G' B' (upd G' p (.lst vs)) B' := Le.of_sub (fun a o z => by rw [upd_ne (ne_of_none z gp')]; exact z) (Int.le_refl _)
      have enL := EnvR.set (d := .lst (y0 :: r0)) (v := .ref p) ⟨p, vs, rfl, upd_same, hrF.mono leF⟩ iF (en'.mono leF)
      rw [set_id hpF] at enL
      refine hs (y0 :: r0) os B' (by simp) hJ σ' _ _ _ exL.sub enL (x.ext (e1.trans exL)) fun c w B2 G2 H2 ⟨m, y, ec, hm62, hy, hJ2⟩ e2 rw_ => ?_
      subst ec
      rw [show w = _ from rw_]
      obtain ⟨G3, g3, g3p, s3, le3, ex3, hL3⟩ := unlend exB np gp' hb2 e2
      obtain ⟨z1, z2⟩ := e2.fr p2 _ hb3 (by rw [upd_ne hp2]; exact gq') ⟨(fun _ z => nomatch z), fun _ z => nomatch z⟩
      have g3q : G3 p2 = none := by rw [g3 p2 hp2]; exact z2
      have hml : m < vs.length := by rw [← hrF.length]; exact (List.getElem?_eq_some_iff.mp hy).1
      have hv : vs[m]? = some vs[m] := List.getElem?_eq_getElem hml
      obtain ⟨dx, hdx, rx⟩ := hrF.get' hv
      have edx : dx = y := by rw [hy] at hdx; cases hdx; rfl
      subst edx
      refine ⟨p, vs, (m : Int), m, vs[m], rfl, rfl, hL3, by omega, by omega, ?_, hv, ?_⟩
      · unfold seqIndex?
        simp
        omega
      refine ⟨p2, ws, vs[m], rfl, rfl, by rw [upd_ne hp2]; exact z1, ?_, ?_⟩
      · have := hrO.length
        simp only [List.length_cons] at hlen
        omega
      refine ⟨(r0.length), by simp only [List.length_cons] at hn; omega, (y0 :: r0).eraseIdx m, os ++ [dx], B2, G3, vs.eraseIdx m, ws ++ [vs[m]], ?_, ?_, hJ2, (ex3.chg np g3p).chg nq g3q, en'.mono le3, hpF, hpO, g3p, g3q, ?_, upd_same, RepL.eraseIdx m (hrF.mono le3), (hrO.mono le3).append ⟨vs[m], [], rfl, rx.mono le3, rfl⟩⟩
      · rw [List.length_eraseIdx_of_lt (by have := hrF.length; omega)]
        simp
      · rw [List.length_eraseIdx_of_lt (by have := hrF.length; omega), List.length_append]
        simp only [List.length_cons] at hlen ⊢
        simp
        omega
      · rw [upd_ne (Ne.symm hp2)]; exact upd_same
end
end AW

set_option linter.all false
set_option maxRecDepth 100000
set_option maxHeartbeats 4000000
namespace AW
open PySem PySem.Spec PyProof.Rows L2 RZ
variable [Tbs]
/-! a def held in a variable; a list copied and owned -/
section
variable {K : PySem.W.Frag} {E E' E1 : XK} {e : EW} {ρ : List (Option D)} {B : Int} {k : KD} {κ : KS} {κo : KO} {ta tb tl te : TE} {tt : TT} {t : TA} {ts us : TS} {g : TG} {i j sl : Nat} {ds : List D} {pr : Pr}
theorem we_callL {f : Addr} (hi : ρ[i]? = some (some (.val (.ref f)))) (h : We K E e (tCall (spD K pr) [] E' t) ρ B k) : We K E e (tCallL i f (spD K pr) [] E' t) ρ B k := fun σ H G Q s en x q => ⟨by
  obtain ⟨v, h1, h2⟩ := en.get hi
  rw [h1, show v = _ from h2], h σ H G Q s en x q⟩
theorem wb_startL (hi : i < ρ.length) (h : Wa K E e t ρ B fun as B1 => ∃ ds : List D, as = [.lst ds] ∧ Wsb K E e us (ρ.set i none) B1 i ds κ) :
    Ws K E e (tSeq (tAsg (tCB (fun xs H Q => ∃ p ys, xs = [.ref p] ∧ (SqL K H p ys ∨ SqT K H p ys) ∧ ∀ l, H l = none → Q (.ref l) (upd H l (.lst ys))) t) (gName i)) us) ρ B κ := fun σ H G Dn s en x q =>
  h σ H G _ s en x fun as vs B1 G1 H1 ⟨ds, ed, h1⟩ e1 r1 => by
    subst ed
    obtain ⟨v, _, rfl, ⟨a, us0, rfl, ha, hr⟩, rfl⟩ := r1
    refine ⟨a, us0, rfl, .inl (SqL.of (e1.sub _ _ ha)), fun p np => ?_⟩
    have g : G1 p = none := by
      cases z : G1 p with
      | none => rfl
      | some u => rw [e1.sub _ _ z] at np; cases np
    have ex : Ext G1 H1 B1 G1 (upd H1 p (.lst us0)) B1 := Ext.hid e1.sub np
    refine h1 _ _ G1 Dn G1 H1 B1 p us0 ex.sub (EnvR.weakAt i (en.mono e1.le)) ?_ np g upd_same hr ex (x.ext e1) (q.ext e1)
    rw [List.getElem?_set_self (by rw [← en.len]; exact hi)]
end
end AW

set_option linter.all false
set_option maxRecDepth 100000
set_option maxHeartbeats 4000000
namespace AW
open PySem PySem.Spec PyProof.Rows L2 RZ LamX
variable [Tbs]
/-! dicts with tuple keys as data -/
def IsDT (o : HO) : Prop := ∃ kvs, o = .dT kvs ∨ ∃ ob, o = .frz ob (.dT kvs)
/-- what may change of dicts with tuple keys: locked or not -/
structure Lw (f : Bool) (G : Hp) (B : Int) (G' : Hp) (B' : Int) : Prop where
  b : B ≤ B'
  keep : ∀ a o, G a = some o → ¬ IsPen o → ¬ IsDT o → G' a = some o
  pen : ∀ a k l c s r, G a = some (.dK (penE k l c s r)) → ∃ s' r', G' a = some (.dK (penE k l c s' r')) ∧ (0 ≤ s → s ≤ B → 0 ≤ s' ∧ s' ≤ B')
  tb : Tabs Tbs.T G → Tabs Tbs.T G'
  dt : ∀ a kvs, (G a = some (.dT kvs) ∨ ∃ o, G a = some (.frz o (.dT kvs))) → (G' a = some (.dT kvs) ∨ ∃ o, G' a = some (.frz o (.dT kvs)))
  un : f = true → ∀ a kvs, G a = some (.dT kvs) → G' a = some (.dT kvs)
theorem nodt_tup {xs : List V} : ¬ IsDT (.tup xs) := fun ⟨_, h⟩ => by rcases h with h | ⟨_, h⟩ <;> cases h
theorem nodt_lst {xs : List V} : ¬ IsDT (.lst xs) := fun ⟨_, h⟩ => by rcases h with h | ⟨_, h⟩ <;> cases h
theorem nodt_ins {C dx : Addr} {fs : List (Str × V)} : ¬ IsDT (.ins C dx fs) := fun ⟨_, h⟩ => by rcases h with h | ⟨_, h⟩ <;> cases h
theorem nodt_dk {kvs : List (Key × V)} : ¬ IsDT (.dK kvs) := fun ⟨_, h⟩ => by rcases h with h | ⟨_, h⟩ <;> cases h
theorem nodt_ftup {o : Obj} {xs : List V} : ¬ IsDT (.frz o (.tup xs)) := fun ⟨_, h⟩ => by rcases h with h | ⟨_, h⟩ <;> cases h
theorem nodt_flst {o : Obj} {xs : List V} : ¬ IsDT (.frz o (.lst xs)) := fun ⟨_, h⟩ => by rcases h with h | ⟨_, h⟩ <;> cases h
section
variable {K : PySem.W.Frag} {G G' : Hp} {B B' : Int} {f : Bool}
theorem Lw.seqT {a : Addr} {xs : List V} (l : Lw f G B G' B') (h : SqT K G a xs) : SqT K G' a xs := by
  rcases h with (h | ⟨o, h⟩) | h
  · exact .inl (.inl (l.keep _ _ h nopen_tup nodt_tup))
  · exact .inl (.inr ⟨o, l.keep _ _ h nopen_frz nodt_ftup⟩)
  · exact .inr h
theorem Lw.seqL {a : Addr} {xs : List V} (l : Lw f G B G' B') (h : SqL K G a xs) : SqL K G' a xs := by
  rcases h with (h | ⟨o, h⟩) | h
  · exact .inl (.inl (l.keep _ _ h nopen_lst nodt_lst))
  · exact .inl (.inr ⟨o, l.keep _ _ h nopen_frz nodt_flst⟩)
  · exact .inr h
mutual
/-- no kept lambda, and (f not) no dict that must be free -/
def lkOk (f : Bool) : D → Bool
  | .tup ds => lkOkL f ds
  | .lst ds => lkOkL f ds
  | .ins _ _ ds => lkOkL f ds
  | .dk _ ds => lkOkL f ds
  | .dt lk _ ds => (lk || f) && lkOkL f ds
  | .at_ _ d => lkOk f d
  | .tb d => lkOk f d
  | .lam _ _ => false
  | _ => true
def lkOkL (f : Bool) : List D → Bool
  | [] => true
  | d :: ds => lkOk f d && lkOkL f ds
end
mutual
theorem Rep.weak (l : Lw f G B G' B') : ∀ {d : D} {v : V}, lkOk f d = true → Rep K G B d v → Rep K G' B' d v
  | .non, _, _, h => h
  | .bl _, _, _, h => h
  | .int _, _, _, h => h
  | .str _, _, _, h => h
  | .tup _, _, n, ⟨a, vs, e, h, r⟩ => ⟨a, vs, e, l.seqT h, RepL.weak l n r⟩
  | .lst _, _, n, ⟨a, vs, e, h, r⟩ => ⟨a, vs, e, l.keep _ _ h nopen_lst nodt_lst, RepL.weak l n r⟩
  | .ins _ _ _, _, n, ⟨a, dx, vs, e, h, nl, r⟩ => ⟨a, dx, vs, e, l.keep _ _ h nopen_ins nodt_ins, nl, RepL.weak l n r⟩
  | .pen k j, _, _, ⟨hT, a, c, ns, s, r, e, h, hc, n, h0, h1⟩ => by
    obtain ⟨s', r', h', q⟩ := l.pen a k j c s r h
    exact ⟨l.tb hT, a, c, ns, s', r', e, h', l.keep _ _ hc nopen_lst nodt_lst, n, (q h0 h1).1, (q h0 h1).2⟩
  | .val _, _, _, h => h
  | .at_ _ _, _, n, ⟨e, h⟩ => ⟨e, Rep.weak l n h⟩
  | .tb _, _, n, ⟨e, h⟩ => ⟨l.tb e, Rep.weak l n h⟩
  | .edk, _, _, ⟨a, e, h⟩ => ⟨a, e, l.keep _ _ h nopen_edk nodt_dk⟩
  | .dk _ _, _, m, ⟨a, vs, e, h, n, r⟩ => ⟨a, vs, e, l.keep _ _ h n nodt_dk, n, RepL.weak l m r⟩
  | .kt _, _, _, ⟨a, e, h⟩ => ⟨a, e, l.keep _ _ h nopen_tup nodt_tup⟩
  | .dt lk _ _, _, m, ⟨a, vs, e, h, n, r⟩ => by
    have m' : ((lk || f) && lkOkL f _) = true := m
    rw [Bool.and_eq_true, Bool.or_eq_true] at m'
    refine ⟨a, vs, e, ?_, n, RepL.weak l m'.2 r⟩
    rcases h with h | ⟨hl, h⟩
    · rcases m'.1 with z | z
      · exact (l.dt a _ (.inl h)).imp id fun y => ⟨z, y⟩
      · exact .inl (l.un z a _ h)
    · exact (l.dt a _ (.inr h)).imp id fun y => ⟨hl, y⟩
  | .lam _ _, _, n, _ => nomatch n
  | .scr _, _, _, ⟨hT, a, e, h⟩ => ⟨l.tb hT, a, e, l.seqL h⟩
theorem RepL.weak (l : Lw f G B G' B') : ∀ {ds : List D} {vs : List V}, lkOkL f ds = true → RepL K G B ds vs → RepL K G' B' ds vs
  | [], _, _, h => h
  | d :: ds, _, n, ⟨v, r, e, h, hr⟩ => by
    have n' : (lkOk f d && lkOkL f ds) = true := n
    rw [Bool.and_eq_true] at n'
    exact ⟨v, r, e, Rep.weak l n'.1 h, RepL.weak l n'.2 hr⟩
end
def lkOkE (f : Bool) : List (Option D) → Bool
  | [] => true
  | none :: r => lkOkE f r
  | some d :: r => lkOk f d && lkOkE f r
theorem EnvR.weak (l : Lw f G B G' B') : ∀ {ρ : List (Option D)} {σ : L2.St}, lkOkE f ρ = true → EnvR K G B ρ σ → EnvR K G' B' ρ σ
  | [], _, _, h => h
  | none :: _, _, n, ⟨x, r, e, h, hr⟩ => ⟨x, r, e, fun d q => (nomatch q), EnvR.weak l n hr⟩
  | some d :: ρ, _, n, ⟨x, r, e, h, hr⟩ => by
    have n' : (lkOk f d && lkOkE f ρ) = true := n
    rw [Bool.and_eq_true] at n'
    exact ⟨x, r, e, fun d' q => by cases q; obtain ⟨v, h1, h2⟩ := h d rfl; exact ⟨v, h1, Rep.weak l n'.1 h2⟩, EnvR.weak l n'.2 hr⟩
/-- the dict at d locked -/
theorem lw_lock {d : Addr} {kvs : List (List Key × V)} {od : Obj} (h : G d = some (.dT kvs)) : Lw false G B (upd G d (.frz od (.dT kvs))) B := by
  have ne : ∀ a o, G a = some o → ¬ IsDT o → a ≠ d := fun a o e n z => by subst z; rw [h] at e; cases e; exact n ⟨kvs, .inl rfl⟩
  refine ⟨Int.le_refl _, fun a o e _ n => by rw [upd_ne (ne a o e n)]; exact e, fun a k l c s r e => ⟨s, r, by rw [upd_ne (ne a _ e nodt_dk)]; exact e, fun x y => ⟨x, y⟩⟩, fun z p hp => ?_, fun a kvs' e => ?_, fun z => nomatch z⟩
  · obtain ⟨ps, t1, t2, t3⟩ := z p hp
    refine ⟨ps, by rw [upd_ne (fun w => by rw [w, h] at t1; cases t1)]; exact t1, t2, fun pos cv hc => ?_⟩
    obtain ⟨c, y1, y2⟩ := t3 pos cv hc
    exact ⟨c, y1, by rw [upd_ne (fun w => by rw [w, h] at y2; unfold LamX.CodeO at y2; cases y2)]; exact y2⟩
  · by_cases w : a = d
    · subst w
      rw [upd_same]
      rcases e with e | ⟨o, e⟩
      · rw [h] at e; cases e; exact .inr ⟨od, rfl⟩
      · rw [h] at e; cases e
    · rw [upd_ne w]; exact e
theorem lw_unlock {d : Addr} {kvs : List (List Key × V)} {od : Obj} (h : G d = some (.frz od (.dT kvs))) : Lw true G B (upd G d (.dT kvs)) B := by
  have ne : ∀ a o, G a = some o → ¬ IsDT o → a ≠ d := fun a o e n z => by subst z; rw [h] at e; cases e; exact n ⟨kvs, .inr ⟨od, rfl⟩⟩
  refine ⟨Int.le_refl _, fun a o e _ n => by rw [upd_ne (ne a o e n)]; exact e, fun a k l c s r e => ⟨s, r, by rw [upd_ne (ne a _ e nodt_dk)]; exact e, fun x y => ⟨x, y⟩⟩, fun z p hp => ?_, fun a kvs' e => ?_, fun _ a kvs' e => ?_⟩
  · obtain ⟨ps, t1, t2, t3⟩ := z p hp
    refine ⟨ps, by rw [upd_ne (fun w => by rw [w, h] at t1; cases t1)]; exact t1, t2, fun pos cv hc => ?_⟩
    obtain ⟨c, y1, y2⟩ := t3 pos cv hc
    exact ⟨c, y1, by rw [upd_ne (fun w => by rw [w, h] at y2; unfold LamX.CodeO at y2; cases y2)]; exact y2⟩
  · by_cases w : a = d
    · subst w
      rw [upd_same]
      rcases e with e | ⟨o, e⟩
      · rw [h] at e; cases e
      · rw [h] at e; cases e; exact .inl rfl
    · rw [upd_ne w]; exact e
  · rw [upd_ne (fun w => by rw [w, h] at e; cases e)]; exact e
/-- behind the lock -/
theorem ext_unlock {H G1 H1 : Hp} {B1 : Int} {d : Addr} {kvs : List (List Key × V)} {od : Obj} (hs : Sub G H) (h : G d = some (.dT kvs)) (ex : Ext (upd G d (.frz od (.dT kvs))) (upd H d (.frz od (.dT kvs))) B G1 H1 B1) :
    G1 d = some (.frz od (.dT kvs)) ∧ H1 d = some (.frz od (.dT kvs)) ∧ Ext G H B (upd G1 d (.dT kvs)) (upd H1 d (.dT kvs)) B1 := by
  have g1 : G1 d = some (.frz od (.dT kvs)) := ex.le.keep d _ upd_same nopen_frz
  refine ⟨g1, ex.sub _ _ g1, ⟨ex.le.b, fun a o e n => ?_, fun a k l c s r e => ?_, fun z => ?_⟩, fun a o e => ?_, fun a o e n t => ?_⟩
  · by_cases w : a = d
    · subst w; rw [h] at e; cases e; rw [upd_same]
    · rw [upd_ne w]; exact ex.le.keep a o (by rw [upd_ne w]; exact e) n
  · have w : a ≠ d := fun w => by rw [w, h] at e; cases e
    obtain ⟨s', r', e2, q⟩ := ex.le.pen a k l c s r (by rw [upd_ne w]; exact e)
    exact ⟨s', r', by rw [upd_ne w]; exact e2, q⟩
  · exact (lw_unlock (B := B) g1).tb (ex.le.tb ((lw_lock (B := B) (od := od) h).tb z))
  · by_cases w : a = d
    · subst w; rw [upd_same] at e ⊢; exact e
    · rw [upd_ne w] at e ⊢; exact ex.sub _ _ e
  · have w : a ≠ d := fun w => by rw [w, h] at n; cases n
    obtain ⟨z1, z2⟩ := ex.fr a o (by rw [upd_ne w]; exact e) (by rw [upd_ne w]; exact n) t
    exact ⟨by rw [upd_ne w]; exact z1, by rw [upd_ne w]; exact z2⟩
end
end AW

set_option linter.all false
set_option maxRecDepth 100000
set_option maxHeartbeats 4000000
namespace AW
open PySem PySem.Spec PyProof.Rows L2 RZ LamX
variable [Tbs]
/-! dicts with tuple keys: reading, going over; texts -/
def lkD (l : List (List Key × D)) (k : List Key) : Option D := (l.find? fun p => decide (p.1 = k)).map (·.2)
abbrev dtD (lk : Bool) (l : List (List Key × D)) : D := .dt lk (l.map (·.1)) (l.map (·.2))
def kD : Key → D
  | .inl i => .int i
  | .inr x => .str x
/-- the same value, as a tuple -/
inductive Wk : D → D → Prop where
  | refl (d : D) : Wk d d
  | kt (ks : List Key) : Wk (.kt ks) (.tup (ks.map kD))
  | lst (kss : List (List Key)) : Wk (.lst (kss.map D.kt)) (.lst (kss.map fun ks => .tup (ks.map kD)))
section
variable {K : PySem.W.Frag} {G H : Hp} {B : Int}
theorem RepL.keys : ∀ ks : List Key, RepL K G B (ks.map kD) (ks.map kV)
  | [] => rfl
  | .inl _ :: r => ⟨_, _, rfl, rfl, RepL.keys r⟩
  | .inr _ :: r => ⟨_, _, rfl, rfl, RepL.keys r⟩
theorem RepL.keysV : ∀ (ks : List Key) {vs : List V}, RepL K G B (ks.map kD) vs → vs = ks.map kV
  | [], _, h => h
  | .inl z :: r, _, ⟨v, w, e, h1, h2⟩ => by rw [e, show v = _ from h1, RepL.keysV r h2]; rfl
  | .inr z :: r, _, ⟨v, w, e, h1, h2⟩ => by rw [e, show v = _ from h1, RepL.keysV r h2]; rfl
theorem Rep.ktT {ks : List Key} {v : V} (h : Rep K G B (.kt ks) v) : Rep K G B (.tup (ks.map kD)) v := by
  obtain ⟨a, e, h⟩ := h
  exact ⟨a, _, e, SqT.of h, RepL.keys ks⟩
theorem Wk.rep {d d' : D} {v : V} (w : Wk d d') (h : Rep K G B d v) : Rep K G B d' v := by
  cases w with
  | refl => exact h
  | kt ks => exact h.ktT
  | lst kss =>
    obtain ⟨a, vs, e, h, hr⟩ := h
    refine ⟨a, vs, e, h, ?_⟩
    clear h e
    induction kss generalizing vs with
    | nil => exact hr
    | cons ks r ih =>
      obtain ⟨v, w, rfl, h1, h2⟩ := hr
      exact ⟨v, w, rfl, h1.ktT, ih w h2⟩
theorem dt_val : ∀ {l : List (List Key × D)} {vs : List V} (k : List Key), RepL K G B (l.map (·.2)) vs → (lkD l k = none → valV ((l.map (·.1)).zip vs) k = none) ∧ (∀ d, lkD l k = some d → ∃ v, valV ((l.map (·.1)).zip vs) k = some v ∧ Rep K G B d v)
  | [], vs, k, h => ⟨fun _ => rfl, fun d z => by simp [lkD] at z⟩
  | (k1, d1) :: l, vs, k, h => by
    obtain ⟨v, w, rfl, r1, r2⟩ := h
    obtain ⟨i1, i2⟩ := dt_val (l := l) k r2
    by_cases e : k1 = k
    · subst e
      refine ⟨fun z => by simp [lkD] at z, fun d z => ?_⟩
      simp only [lkD, List.find?_cons, decide_true, Option.map_some, Option.some.injEq] at z
      subst z
      exact ⟨v, by simp [valV], r1⟩
    · have e1 : lkD ((k1, d1) :: l) k = lkD l k := by simp [lkD, List.find?_cons, e]
      have e2 : valV (((k1, d1) :: l).map (·.1) |>.zip (v :: w)) k = valV ((l.map (·.1)).zip w) k := by simp [valV, List.find?_cons, e]
      rw [e1, e2]
      exact ⟨i1, i2⟩
theorem dt_rd {lk : Bool} {a : Addr} {kvs : List (List Key × V)} (s : Sub G H) (h : G a = some (.dT kvs) ∨ lk = true ∧ ∃ o, G a = some (.frz o (.dT kvs))) : Rd H a (.dT kvs) := by
  rcases h with h | ⟨_, o, h⟩
  · exact .inl (s _ _ h)
  · exact .inr ⟨o, s _ _ h⟩
end
section
variable {K : PySem.W.Frag} {E E' E1 : XK} {e : EW} {ρ : List (Option D)} {B : Int} {k : KD} {κ : KS} {κo : KO} {ta tb tc tl te : TE} {tt : TT} {t : TA} {ts us tbody : TS} {g : TG} {i j sl : Nat} {ds : List D} {pr : Pr}
theorem we_wk (h : We K E e ta ρ B fun d B1 => ∃ d', Wk d d' ∧ k d' B1) : We K E e ta ρ B k := fun σ H G Q s en x q => h σ H G Q s en x fun d v B1 G1 H1 ⟨d', w, hk⟩ e1 r1 => q d' v B1 G1 H1 hk e1 (w.rep r1)
/-- a tuple of ints and texts, known to stand by itself -/
theorem we_kt (h : Wa K E e t ρ B fun as B1 => ∃ ks : List Key, as = ks.map kD ∧ ks.length ≤ sizeLine ∧ k (.kt ks) B1) : We K E e (tTup t) ρ B k := fun σ H G Q s en x q =>
  h σ H G _ s en x fun as vs B1 G1 H1 ⟨ks, ea, hl, hk⟩ e1 r1 => by
    subst ea
    have ev : vs = ks.map kV := RepL.keysV ks r1
    subst ev
    refine ⟨by rw [List.length_map]; exact hl, fun p np => q _ _ _ _ _ hk (e1.trans (Ext.new e1.sub np)) ⟨p, rfl, upd_same⟩⟩
theorem we_dgetT (h : We K E e ta ρ B fun d B1 => ∃ lk l, d = dtD lk l ∧ We K E e tb ρ B1 fun kd B2 => ∃ c d', kd = .kt c ∧ lkD l c = some d' ∧ k d' B2) : We K E e (tDGet ta tb) ρ B k := fun σ H G Q s en x q =>
  h σ H G _ s en x fun d v B1 G1 H1 ⟨lk, l, ed, h1⟩ e1 r1 => h1 σ H1 G1 _ e1.sub (en.mono e1.le) (x.ext e1) fun kd y B2 G2 H2 ⟨c, d', ek, hl, hk⟩ e2 r2 => by
    subst ed ek
    obtain ⟨a, vs, rfl, ha, hn, hr⟩ := r1.mono e2.le
    obtain ⟨b, rfl, hb⟩ := r2
    obtain ⟨v, hv, rv⟩ := (dt_val c hr).2 d' hl
    exact ⟨a, v, rfl, .inr ⟨_, c, b, dt_rd e2.sub ha, rfl, e2.sub _ _ hb, hv.symm⟩, q _ _ _ _ _ hk (e1.trans e2) rv⟩
theorem dt_get {l : List (List Key × D)} {vs : List V} {G : Hp} (hr : RepL K G B (l.map (·.2)) vs) (c : List Key) : ∃ o, valV ((l.map (·.1)).zip vs) c = o ∧ o.isSome = (lkD l c).isSome ∧ (∀ d, lkD l c = some d → ∃ v, o = some v ∧ Rep K G B d v) ∧ (lkD l c = none → o = none) := by
  obtain ⟨h1, h2⟩ := dt_val c hr
  refine ⟨_, rfl, ?_, h2, h1⟩
  cases e : lkD l c with
  | none => rw [h1 e]; rfl
  | some d => obtain ⟨v, hv, _⟩ := h2 d e; rw [hv]; rfl
theorem we_dinT (h : We K E e tb ρ B fun kd B1 => ∃ c, kd = .kt c ∧ We K E e ta ρ B1 fun d B2 => ∃ lk l, d = dtD lk l ∧ k (.bl (lkD l c).isSome) B2) : We K E e (tDIn tb ta) ρ B k := fun σ H G Q s en x q =>
  h σ H G _ s en x fun kd y B1 G1 H1 ⟨c, ek, h1⟩ e1 r1 => h1 σ H1 G1 _ e1.sub (en.mono e1.le) (x.ext e1) fun d v B2 G2 H2 ⟨lk, l, ed, hk⟩ e2 r2 => by
    subst ed ek
    obtain ⟨b, rfl, hb⟩ := r1.mono e2.le
    obtain ⟨a, vs, rfl, ha, hn, hr⟩ := r2
    obtain ⟨o, ho, hs, _⟩ := dt_get hr c
    refine ⟨a, o, rfl, .inr ⟨_, c, b, dt_rd e2.sub ha, rfl, e2.sub _ _ hb, ho.symm⟩, ?_⟩
    rw [hs]
    exact q _ _ _ _ _ hk (e1.trans e2) rfl
theorem we_dnotinT (h : We K E e tb ρ B fun kd B1 => ∃ c, kd = .kt c ∧ We K E e ta ρ B1 fun d B2 => ∃ lk l, d = dtD lk l ∧ k (.bl (!(lkD l c).isSome)) B2) : We K E e (tDNotIn tb ta) ρ B k := fun σ H G Q s en x q =>
  h σ H G _ s en x fun kd y B1 G1 H1 ⟨c, ek, h1⟩ e1 r1 => h1 σ H1 G1 _ e1.sub (en.mono e1.le) (x.ext e1) fun d v B2 G2 H2 ⟨lk, l, ed, hk⟩ e2 r2 => by
    subst ed ek
    obtain ⟨b, rfl, hb⟩ := r1.mono e2.le
    obtain ⟨a, vs, rfl, ha, hn, hr⟩ := r2
    obtain ⟨o, ho, hs, _⟩ := dt_get hr c
    refine ⟨a, o, rfl, .inr ⟨_, c, b, dt_rd e2.sub ha, rfl, e2.sub _ _ hb, ho.symm⟩, ?_⟩
    rw [hs]
    exact q _ _ _ _ _ hk (e1.trans e2) rfl
/-- d.get(k, z) -/
theorem we_dget2T (h : We K E e ta ρ B fun d B1 => ∃ lk l, d = dtD lk l ∧ We K E e tb ρ B1 fun kd B2 => ∃ c, kd = .kt c ∧ We K E e tc ρ B2 fun z B3 => k ((lkD l c).getD z) B3) : We K E e (tDGet2 ta tb tc) ρ B k := fun σ H G Q s en x q =>
  h σ H G _ s en x fun d v B1 G1 H1 ⟨lk, l, ed, h1⟩ e1 r1 => by
    subst ed
    have r1' := r1
    obtain ⟨a, vs, rfl, ha, hn, hr⟩ := r1
    refine ⟨a, rfl, .inr ⟨_, dt_rd e1.sub ha⟩, h1 σ H1 G1 _ e1.sub (en.mono e1.le) (x.ext e1) fun kd y B2 G2 H2 ⟨c, ek, h2⟩ e2 r2 => h2 σ H2 G2 _ e2.sub ((en.mono e1.le).mono e2.le) ((x.ext e1).ext e2) fun z w B3 G3 H3 hk e3 r3 => ?_⟩
    subst ek
    obtain ⟨b, rfl, hb⟩ := r2.mono e3.le
    obtain ⟨a', vs', ea, ha, hn, hr⟩ := r1'.mono (e2.trans e3).le
    cases ea
    obtain ⟨o, ho, hs, hS, hN⟩ := dt_get hr c
    refine ⟨o, .inr ⟨_, c, b, dt_rd e3.sub ha, rfl, e3.sub _ _ hb, ho.symm⟩, q _ _ _ _ _ hk (e1.trans (e2.trans e3)) ?_⟩
    cases el : lkD l c with
    | none => rw [hN el]; exact r3
    | some d => obtain ⟨v, hv, rv⟩ := hS d el; rw [hv]; exact rv
/-! ### over a dict -/
theorem lc_keysT {d : Addr} {o : Obj} {kvs : List (List Key × V)} {g : TG} {tt : TT} {te : TE} {vs : List Nat} {σ : L2.St} {H1 : Hp} {L : Addr} {Qd : Hp → Prop} (Pv : Nat → Hp → Prop) (h0 : Pv 0 (upd H1 L (.lst []))) (hl : ∀ i H, i ≤ kvs.length → Pv i H → H d = some (.frz o (.dT kvs)))
    (hs : ∀ i k v q H, kvs[i]? = some (k, v) → H q = some (.tup (k.map kV)) → Pv i H → g (.ref q) (wipe σ vs) H fun σ2 H2 => wipe σ2 vs = wipe σ vs ∧ tt σ2 H2 fun b H3 =>
      if b = true then te σ2 H3 fun y H4 => ∃ acc, H4 L = some (.lst acc) ∧ acc.length < sizeLine ∧ Pv (i + 1) (upd H4 L (.lst (acc ++ [y]))) else Pv (i + 1) H3) (hd : ∀ H, Pv kvs.length H → Qd H) :
    ∃ W : Nat → Nat → Hp → Prop, (∃ m, W 0 m (upd H1 L (.lst []))) ∧ ∀ i m H, W i m H →
      ((Itkt d o kvs).stop i H ∧ Qd H) ∨ ((Itkt d o kvs).go i H ∧ ∃ Nx : Hp → Prop, (∀ H', Nx H' → ∃ m', m' < m ∧ W (i + 1) m' H') ∧ ∀ x H', (Itkt d o kvs).yld i H x H' → g x (wipe σ vs) H' fun σ2 H2 => wipe σ2 vs = wipe σ vs ∧ tt σ2 H2 fun b H3 =>
        if b = true then te σ2 H3 fun y H4 => ∃ acc, H4 L = some (.lst acc) ∧ acc.length < sizeLine ∧ Nx (upd H4 L (.lst (acc ++ [y]))) else Nx H3) := by
  refine ⟨fun i m H => m = kvs.length - i ∧ i ≤ kvs.length ∧ Pv i H, ⟨kvs.length, by simp, Nat.zero_le _, h0⟩, ?_⟩
  rintro i m H ⟨rfl, hi, p⟩
  have q := hl i H hi p
  by_cases hlt : i < kvs.length
  · refine .inr ⟨⟨q, hlt⟩, Pv (i + 1), fun H' p' => ⟨kvs.length - (i + 1), by omega, rfl, hlt, p'⟩, fun x H' y => ?_⟩
    obtain ⟨e, k, v, r, h1, h2, h3⟩ := y
    subst e h2
    exact hs i k v r _ h1 h3 p
  · have e : i = kvs.length := by omega
    subst e
    exact .inl ⟨⟨q, Nat.le_refl _⟩, hd H p⟩

theorem RepL.getKts {G : Hp} {kss : List (List Key)} {vs : List V} (r : RepL K G B (kss.map D.kt) vs) : vs.length = kss.length := by have := r.length; rw [List.length_map] at this; exact this.symm
theorem lkOkE_get : ∀ {ρ : List (Option D)} {i : Nat} {d : D} {f : Bool}, lkOkE f ρ = true → ρ[i]? = some (some d) → lkOk f d = true
  | [], _, _, _, _, h => by simp at h
  | o :: r, 0, d, f, hr, h => by
    simp at h
    subst h
    have hr' : (lkOk f d && lkOkE f r) = true := hr
    rw [Bool.and_eq_true] at hr'
    exact hr'.1
  | none :: r, i + 1, d, f, hr, h => lkOkE_get (ρ := r) hr (by simpa using h)
  | some d' :: r, i + 1, d, f, hr, h => by
    have hr' : (lkOk f d' && lkOkE f r) = true := hr
    rw [Bool.and_eq_true] at hr'
    exact lkOkE_get (ρ := r) hr'.2 (by simpa using h)
theorem sub_lock {G H : Hp} {a : Addr} {o : HO} (s : Sub G H) : Sub (upd G a o) (upd H a o) := fun b u z => by
  by_cases w : b = a
  · subst w; rw [upd_same] at z ⊢; exact z
  · rw [upd_ne w] at z ⊢; exact s _ _ z
theorem lkOk_kts (f : List Key → D) (hf : ∀ c, lkOk true (f c) = true) : ∀ cs : List (List Key), lkOkL true (cs.map f) = true
  | [] => rfl
  | c :: cs => by show (lkOk true (f c) && lkOkL true (cs.map f)) = true; rw [hf, lkOk_kts f hf cs]; rfl
/-- [f(k) for k in d if p(k)] -/
theorem we_lc_dt {p : List Key → Bool} {f : List Key → D} {kss : List (List Key)} {ds : List D} (hi : ρ[i]? = some (some (.dt false kss ds))) (hz : kss.length < sizeLine) (hno : lkOkE false (ρ.set i (some (.dt true kss ds))) = true) (hf : ∀ c, lkOk true (f c) = true)
    (hs : ∀ c ∈ kss, ∀ kb : Bool → Int → Prop, kb (p c) B → Wt K E1 noE tt (((ρ.set i (some (.dt true kss ds))).set sl none).set sl (some (.kt c))) B kb)
    (he : ∀ c ∈ kss, p c = true → ∀ k' : KD, k' (f c) B → We K E1 noE te (((ρ.set i (some (.dt true kss ds))).set sl none).set sl (some (.kt c))) B k')
    (hk : k (.lst ((kss.filter p).map f)) B) : We K E e (tLockE (tLc (iKeys (tVar i)) (gName sl) tt te [sl])) ρ B k := fun σ H G Q s en x q => by
  obtain ⟨v0, hv0, a, vs, rfl, ha, hn, hr⟩ := en.get hi
  have ha : G a = some (.dT (kss.zip vs)) := ha.elim id fun z => nomatch z.1
  refine ⟨a, _, s _ _ ha, trivial, fun od => ?_⟩
  have lw := lw_lock (B := B) (od := od) ha
  have sub1 := sub_lock (a := a) (o := .frz od (.dT (kss.zip vs))) s
  have en0 : EnvR K G B (ρ.set i (some (.dt true kss ds))) σ := by
    have e1 : EnvR K G B (ρ.set i (some (.dt true kss ds))) (σ.set i (some (.ref a))) := EnvR.set (d := .dt true kss ds) (v := .ref a) ⟨a, vs, rfl, .inl ha, hn, hr⟩ i en
    rwa [set_id hv0] at e1
  have en1 : EnvR K (upd G a (.frz od (.dT (kss.zip vs)))) B (ρ.set i (some (.dt true kss ds))) σ := EnvR.weak lw hno en0
  refine ⟨.ref a, hv0, a, od, rfl, .inr ⟨_, upd_same, fun L nL => ?_⟩⟩
  have lenz : (kss.zip vs).length = kss.length := by rw [List.length_zip, hn]; simp
  refine lc_keysT (fun n H' => LcOk K (fun out B' => out = ((kss.take n).filter p).map f ∧ B' = B) L (upd G a (.frz od (.dT (kss.zip vs)))) (upd H a (.frz od (.dT (kss.zip vs)))) B H') (lc_start sub1 nL ⟨rfl, rfl⟩) (fun n H' _ z => z.kept upd_same nopen_frz) ?_ ?_
  · intro n c v r H' hc hq hz'
    have hcn : kss[n]? = some c := by
      rw [List.getElem?_zip_eq_some] at hc
      exact hc.1
    have hm := List.mem_of_getElem? hcn
    have htk : (kss.take (n + 1)).filter p = (kss.take n).filter p ++ (if p c = true then [c] else []) := by
      rw [List.take_add_one, hcn, Option.toList_some, List.filter_append]
      congr 1
      by_cases hp : p c = true
      · rw [if_pos hp]; simp [hp]
      · rw [if_neg hp]; simp [hp]
    obtain ⟨out, B', G', acc, ⟨eo, eB⟩, e2, gL, hL, hr2⟩ := hz'
    subst eB
    have eL := Ext.learn (B := B') (p := r) e2.sub hq
    have gL2 : upd G' r (.tup (c.map kV)) L = none := by rw [upd_ne (fun w => by rw [← w, hL] at hq; cases hq)]; exact gL
    refine ⟨?_, ?_⟩
    · show ((σ.set sl none).set sl (some (.ref r))).set sl none = σ.set sl none
      rw [List.set_set, List.set_set]
    · have en2 : EnvR K (upd G' r (.tup (c.map kV))) B' (((ρ.set i (some (.dt true kss ds))).set sl none).set sl (some (.kt c))) ((σ.set sl none).set sl (some (.ref r))) := EnvR.set (d := .kt c) (v := .ref r) ⟨r, rfl, upd_same⟩ sl (EnvR.wipe1 sl (en1.mono (e2.trans eL).le))
      refine hs c hm (fun b B3 => b = p c ∧ B3 = B') ⟨rfl, rfl⟩ _ H' _ _ eL.sub en2 XOk.no fun b B3 G3 H3 ⟨hb, hB⟩ e3 => ?_
      subst hB
      have hlen : out.length < sizeLine := by
        rw [eo, List.length_map]
        have h1 := List.length_filter_le p (kss.take n)
        have h2 := List.length_take_le n kss
        have h3 := List.length_take_le' n kss
        omega
      cases b with
      | true =>
        rw [if_pos rfl]
        refine he c hm hb.symm (fun d B4 => d = f c ∧ B4 = B3) ⟨rfl, rfl⟩ _ H3 G3 _ e3.sub (en2.mono e3.le) XOk.no fun y w B4 G4 H4 ⟨hy, hB4⟩ e4 r4 => ?_
        subst hB4 hy
        obtain ⟨z1, z2⟩ := (e3.trans e4).fr L _ hL gL2 ⟨(fun _ z => nomatch z), fun _ z => nomatch z⟩
        refine ⟨acc, z1, by rw [← hr2.length]; exact hlen, out ++ [f c], B4, G4, acc ++ [w], ⟨by rw [htk, ← hb, if_pos rfl, List.map_append, eo]; rfl, rfl⟩, ?_, z2, upd_same, (hr2.mono (eL.trans (e3.trans e4)).le).append ⟨w, [], rfl, r4, rfl⟩⟩
        have eA := e2.trans (eL.trans (e3.trans e4))
        refine ⟨eA.le, fun b o z => ?_, fun b o z n t => ?_⟩
        · have : b ≠ L := fun q => by rw [q, z2] at z; cases z
          rw [upd_ne this]; exact eA.sub _ _ z
        · have : b ≠ L := ne_of_none z nL
          rw [upd_ne this]
          exact eA.fr _ _ z n t
      | false =>
        rw [if_neg Bool.false_ne_true]
        obtain ⟨z1, z2⟩ := e3.fr L _ hL gL2 ⟨(fun _ z => nomatch z), fun _ z => nomatch z⟩
        exact ⟨out, B3, G3, acc, ⟨by rw [htk, ← hb, if_neg Bool.false_ne_true, List.append_nil, eo], rfl⟩, e2.trans (eL.trans e3), z2, z1, hr2.mono (eL.trans e3).le⟩
  · intro H' hz'
    rw [lenz] at hz'
    refine lc_end (k := fun d B' => d = .lst ((kss.filter p).map f) ∧ B' = B) (Ext.refl sub1) nL hz' (fun out B' ⟨eo, eB⟩ => ⟨by rw [eo, List.take_length], eB⟩) (fun d w B' G' H' ⟨ed, eB⟩ ex rep => ?_) (Q := fun v H' => H' a = some (.frz od (.dT (kss.zip vs))) ∧ Q v (upd H' a (.dT (kss.zip vs))))
    subst ed eB
    obtain ⟨g1, h1, exu⟩ := ext_unlock s ha ex
    exact ⟨h1, q _ _ _ _ _ hk exu (Rep.weak (lw_unlock g1) (lkOk_kts f hf _) rep)⟩
end
end AW

set_option linter.all false
set_option maxRecDepth 100000
set_option maxHeartbeats 4000000
namespace AW
open PySem PySem.Spec PyProof.Rows L2 RZ LamX
variable [Tbs]
/-! texts: going over them, joining; a dict of the module's top; over a dict, statement by statement -/
def chS (x : Str) : List Str := x.cps.toList.map fun c => ⟨#[c]⟩
theorem chS_get {x : Str} {i : Nat} {c : Nat} (h : x.cps[i]? = some c) : (chS x)[i]? = some (⟨#[c]⟩ : Str) := by
  unfold chS
  rw [List.getElem?_map, Array.getElem?_toList, h]
  rfl
theorem chS_len (x : Str) : (chS x).length = x.cps.size := by unfold chS; rw [List.length_map, Array.length_toList]
theorem un0 {k : Nat} {A : Around} (r : Room k A) : A.units < cLine := by have := r.un; omega
section
variable {K : PySem.W.Frag} {E E' E1 : XK} {e : EW} {ρ : List (Option D)} {B : Int} {k : KD} {κ : KS} {κo : KO} {ta tb tc tl te ti : TE} {tt : TT} {t : TA} {ts us tbody : TS} {g : TG} {i j sl : Nat} {ds : List D} {pr : Pr}
theorem we_cdict {l : List (Str × List V)} (h : We K E e ti ρ B fun d B1 => ∃ (c : Str) (xs : List Int), d = .str c ∧ l.lookup c = some (xs.map V.int) ∧ k (.tup (xs.map D.int)) B1) : We K E e (tCDict K l ti) ρ B k := fun σ H G Q s en x q =>
  h σ H G _ s en x fun d v B1 G1 H1 ⟨c, xs, ed, hl, hk⟩ e1 r1 => by
    subst ed
    rw [show v = _ from r1]
    refine ⟨c, _, rfl, hl, fun b hb => ?_⟩
    exact q _ _ _ _ _ hk e1 ⟨b, _, rfl, hb G1, RepL.ints xs⟩
theorem ws_for_str (h : We K E e te ρ B fun d B1 => ∃ x : Str, d = .str x ∧ ∃ I : Nat → KE', I 0 ρ B1 ∧ (∀ i c ρ' B', (chS x)[i]? = some c → I i ρ' B' → Wg K g (.str c) ρ' B' fun ρ2 B2 => Ws K E e tbody ρ2 B2 { nx := I (i + 1), rt := κ.rt, bk := κ.nx, ct := I (i + 1) }) ∧ ∀ ρ' B', I (chS x).length ρ' B' → κ.nx ρ' B') :
    Ws K E e (tFor (iStr te) g tbody) ρ B κ := fun σ H G Dn s en x q =>
  h σ H G _ s en x fun d v B1 G1 H1 ⟨z, ed, I, i0, hs, hd⟩ e1 r1 => by
    subst ed
    rw [show v = _ from r1]
    refine ⟨z, rfl, ?_⟩
    rw [chS_len] at hd
    refine for_it walk_str (fun i σ' H' => ∃ ρ' B' G', I i ρ' B' ∧ Ext G1 H1 B1 G' H' B' ∧ EnvR K G' B' ρ' σ') ⟨ρ, B1, G1, i0, Ext.refl e1.sub, en.mono e1.le⟩ (fun _ _ _ _ _ => trivial) ?_ ?_
    · rintro n y σ' H' H'' hn ⟨ρ', B', G', hI, e2, en2⟩ ⟨eH, c, hc, ey⟩
      subst eH ey
      refine hs n _ ρ' B' (chS_get hc) hI _ σ' H'' G' _ e2.sub en2 rfl fun ρ2 σ2 B2 G2 H2 h2 e3 en3 => ?_
      have eA := e1.trans (e2.trans e3)
      exact h2 σ2 H2 G2 _ e3.sub en3 (x.ext eA) ⟨fun ρ3 σ3 B3 G3 H3 h3 e4 en4 => ⟨ρ3, B3, G3, h3, (e2.trans e3).trans e4, en4⟩, q.rt.ext eA, q.nx.ext eA, fun ρ3 σ3 B3 G3 H3 h3 e4 en4 => ⟨ρ3, B3, G3, h3, (e2.trans e3).trans e4, en4⟩⟩
    · rintro σ' H' ⟨ρ', B', G', hI, e2, en2⟩
      exact q.nx _ _ _ _ _ (hd _ _ hI) (e1.trans e2) en2
/-- [f(c) for c in text if p(c)] -/
theorem we_lc_strF (h : We K E e te ρ B fun d B1 => ∃ (x : Str) (p : Str → Bool) (f : Str → D), d = .str x ∧ (chS x).length < 1000 ∧ (∀ c ∈ chS x, ∀ kb : Bool → Int → Prop, kb (p c) B1 → Wt K E1 noE tt ((ρ.set sl none).set sl (some (.str c))) B1 kb) ∧
    (∀ c ∈ chS x, p c = true → ∀ k' : KD, k' (f c) B1 → We K E1 noE tl ((ρ.set sl none).set sl (some (.str c))) B1 k') ∧ k (.lst (((chS x).filter p).map f)) B1) :
    We K E e (tLc (iStr te) (gName sl) tt tl [sl]) ρ B k := fun σ H G Q s en x q =>
  h σ H G _ s en x fun d v B1 G1 H1 ⟨z, p, f, ed, hl, ht, he, hk⟩ e1 r1 => by
    subst ed
    rw [show v = _ from r1]
    refine ⟨z, rfl, fun L nL => ?_⟩
    refine lc_it walk_str (fun n H' => LcOk K (fun out B' => out.length ≤ n ∧ (out = (((chS z).take n).filter p).map f ∧ B' = B1)) L G1 H1 B1 H') (lc_start e1.sub nL ⟨Nat.le_refl _, rfl, rfl⟩) (fun _ _ _ _ => trivial) ?_ ?_
    · intro n y H' H'' hn hz ⟨eH, c, hc, ey⟩
      subst eH ey
      have hcc := chS_get hc
      have hm := List.mem_of_getElem? hcc
      have hsz : 1000 < sizeLine := by decide
      have hlt := (List.getElem?_eq_some_iff.mp hcc).1
      have htk : ((chS z).take (n + 1)).filter p = ((chS z).take n).filter p ++ (if p ⟨#[c]⟩ = true then [⟨#[c]⟩] else []) := by
        rw [List.take_add_one, hcc, Option.toList_some, List.filter_append]
        congr 1
        by_cases hp : p ⟨#[c]⟩ = true
        · rw [if_pos hp]; simp [hp]
        · rw [if_neg hp]; simp [hp]
      refine lc_step (E1 := E1) (ρ := ρ) (I := fun n out B' => out = (((chS z).take n).filter p).map f ∧ B' = B1) (d := .str ⟨#[c]⟩) nL e1.sub (en.mono e1.le) hz (by omega) rfl (fun out B' ⟨eo, eB⟩ => ?_)
      subst eB
      refine ht _ hm _ ⟨fun hb => he _ hm hb _ ⟨?_, rfl⟩, fun hb => ⟨?_, rfl⟩⟩
      · rw [htk, hb, if_pos rfl, List.map_append, eo]; rfl
      · rw [htk, hb, if_neg Bool.false_ne_true, List.append_nil, eo]
    · intro H' hz
      refine lc_end e1 nL hz (fun out B' ⟨_, eo, eB⟩ => ?_) q
      rw [← chS_len, List.take_length] at eo
      rw [eo, eB]
      exact hk
/-- ''.join(list of texts) -/
theorem we_join (h : We K E e ta ρ B fun d B1 => ∃ a, d = .str a ∧ We K E e tb ρ B1 fun d2 B2 => ∃ ys : List Str, d2 = .lst (ys.map D.str) ∧ (ys.map (·.length)).sum + ys.length * a.length ≤ 16777216 ∧ k (.str (Txt.join a ys)) B2) :
    We K E e (tM1 (fun x xs H Q => ∃ a p, ∃ ys : List Str, x = .str a ∧ xs = [.ref p] ∧ (SqL K H p (ys.map V.str) ∨ SqT K H p (ys.map V.str)) ∧ (ys.map (·.length)).sum + ys.length * a.length ≤ 16777216 ∧ Q (.str (Txt.join a ys)) H) ta tb) ρ B k := fun σ H G Q s en x q =>
  h σ H G _ s en x fun d v B1 G1 H1 ⟨a, ed, h1⟩ e1 r1 => by
    subst ed
    rw [show v = _ from r1]
    refine ⟨⟨a, rfl⟩, h1 σ H1 G1 _ e1.sub (en.mono e1.le) (x.ext e1) fun d2 w B2 G2 H2 ⟨ys, e2d, hz, hk⟩ e2 r2 => ?_⟩
    subst e2d
    obtain ⟨p, vs, rfl, hp, hr⟩ := r2
    have ev : ∀ (ys : List Str) (vs : List V), RepL K G2 B2 (ys.map D.str) vs → vs = ys.map V.str := by
      intro ys
      induction ys with
      | nil => intro vs h; exact h
      | cons c r ih =>
        intro vs h
        obtain ⟨v, w, rfl, h1, h2⟩ := h
        rw [show v = _ from h1, ih _ h2]; rfl
    have hv := ev ys vs hr
    subst hv
    exact ⟨a, p, ys, rfl, rfl, .inl (SqL.of (e2.sub _ _ hp)), hz, q _ _ _ _ _ hk (e1.trans e2) rfl⟩
theorem ro_inS {a b : Str} (h : k (.bl (!(Builtin.Str.occurrences b a 0 b.length 1).isEmpty)) B) : Ro K E e (fun x y H Q => ∃ i j, x = .str i ∧ y = .str j ∧ Q (.bl (!(Builtin.Str.occurrences j i 0 j.length 1).isEmpty)) H) (.str a) (.str b) B k := fun x y H G Q s r1 r2 _ q => by
  rw [show x = _ from r1, show y = _ from r2]
  exact ⟨a, b, rfl, rfl, q _ _ _ _ _ h (Ext.refl s) rfl⟩
end
end AW

set_option linter.all false
set_option maxRecDepth 100000
set_option maxHeartbeats 4000000
namespace AW
open PySem PySem.Spec PyProof.Rows L2 RZ LamX
variable [Tbs]
/-! several things owned at once: lists, dicts with tuple keys -/
inductive OC where
  | dict (l : List (List Key × Int))
  | list (es : List D)
  | dictD (l : List (List Key × D))
  | lckD (od : Obj) (l : List (List Key × D)) (vs : List V)
def kvI (e : List Key × Int) : List Key × V := (e.1, .int e.2)
def Own1 (K : PySem.W.Frag) (G H : Hp) (B : Int) (a : Addr) : OC → Prop
  | .dict l => H a = some (.dT (l.map kvI))
  | .list es => ∃ vs, H a = some (.lst vs) ∧ RepL K G B es vs
  | .dictD l => ∃ vs, H a = some (.dT ((l.map (·.1)).zip vs)) ∧ RepL K G B (l.map (·.2)) vs
  | .lckD od l vs => H a = some (.frz od (.dT ((l.map (·.1)).zip vs))) ∧ RepL K G B (l.map (·.2)) vs
def NoH0 (G0 H0 : Hp) (a : Addr) : Prop := ∀ o, H0 a = some o → G0 a = none → NTb o → False
structure Owns (K : PySem.W.Frag) (G0 H0 G H : Hp) (B : Int) (O : List (Addr × OC)) : Prop where
  nd : (O.map (·.1)).Nodup
  at_ : ∀ x ∈ O, NoH0 G0 H0 x.1 ∧ G x.1 = none ∧ Own1 K G H B x.1 x.2
structure KX where
  nx : List (Option D) → List (Addr × OC) → Int → Prop := fun _ _ _ => False
  rt : KD
  bk : List (Option D) → List (Addr × OC) → Int → Prop := fun _ _ _ => False
  ct : List (Option D) → List (Addr × OC) → Int → Prop := fun _ _ _ => False
section
variable {K : PySem.W.Frag}
theorem Own1.ext {G H G1 H1 : Hp} {B B1 : Int} {a : Addr} {o : OC} (h : Own1 K G H B a o) (g : G a = none) (e : Ext G H B G1 H1 B1) : Own1 K G1 H1 B1 a o ∧ G1 a = none := by
  cases o with
  | dict l =>
    obtain ⟨z1, z2⟩ := e.fr a _ h g ⟨(fun _ z => nomatch z), fun _ z => nomatch z⟩
    exact ⟨z1, z2⟩
  | list es =>
    obtain ⟨vs, h, hr⟩ := h
    obtain ⟨z1, z2⟩ := e.fr a _ h g ⟨(fun _ z => nomatch z), fun _ z => nomatch z⟩
    exact ⟨⟨vs, z1, hr.mono e.le⟩, z2⟩
  | dictD l =>
    obtain ⟨vs, h, hr⟩ := h
    obtain ⟨z1, z2⟩ := e.fr a _ h g ⟨(fun _ z => nomatch z), fun _ z => nomatch z⟩
    exact ⟨⟨vs, z1, hr.mono e.le⟩, z2⟩
  | lckD od l vs =>
    obtain ⟨h, hr⟩ := h
    obtain ⟨z1, z2⟩ := e.fr a _ h g ⟨(fun _ z => nomatch z), fun _ z => nomatch z⟩
    exact ⟨⟨z1, hr.mono e.le⟩, z2⟩
theorem Owns.ext {G0 H0 G H G1 H1 : Hp} {B B1 : Int} {O : List (Addr × OC)} (h : Owns K G0 H0 G H B O) (e : Ext G H B G1 H1 B1) : Owns K G0 H0 G1 H1 B1 O :=
  ⟨h.nd, fun x hx => let ⟨a, b, c⟩ := h.at_ x hx; ⟨a, (c.ext b e).2, (c.ext b e).1⟩⟩
def XEnd (K : PySem.W.Frag) (k : List (Option D) → List (Addr × OC) → Int → Prop) (Q : L2.St → Hp → Prop) (G0 H0 : Hp) (B0 : Int) : Prop := ∀ ρ O σ B G H, k ρ O B → Ext G0 H0 B0 G H B → EnvR K G B ρ σ → Owns K G0 H0 G H B O → Q σ H
structure XEnds (K : PySem.W.Frag) (κ : KX) (Dn : Ends) (G0 H0 : Hp) (B0 : Int) : Prop where
  nx : XEnd K κ.nx Dn.nx G0 H0 B0
  rt : KOk K κ.rt Dn.rt G0 H0 B0
  bk : XEnd K κ.bk Dn.bk G0 H0 B0
  ct : XEnd K κ.ct Dn.ct G0 H0 B0
def WOw (K : PySem.W.Frag) (E : XK) (e : EW) (t : TS) (ρ : List (Option D)) (B : Int) (O : List (Addr × OC)) (κ : KX) : Prop :=
  ∀ σ H G Dn G0 H0 B0, EnvR K G B ρ σ → Owns K G0 H0 G H B O → Ext G0 H0 B0 G H B → XOk K E e G0 H0 B0 → XEnds K κ Dn G0 H0 B0 → t Dn σ H
variable {E E' : XK} {e : EW} {ρ : List (Option D)} {B : Int} {k : KD} {κ : KS} {κx : KX} {ta tb tc tl te ti : TE} {tt : TT} {t : TA} {s ts us tbody : TS} {g : TG} {i j n : Nat} {ds : List D} {O : List (Addr × OC)} {p : Addr} {l : List (List Key × Int)} {es : List D}
theorem wx_own (h : WOw K E e s ρ B [] { nx := fun ρ' _ B' => κ.nx ρ' B', rt := κ.rt }) : Ws K E e s ρ B κ := fun σ H G Dn sb en x q =>
  h σ H G Dn G H B en ⟨List.nodup_nil, fun x hx => nomatch hx⟩ (Ext.refl sb) x ⟨fun ρ' O' σ' B' G' H' hz ex en' _ => q.nx ρ' σ' B' G' H' hz ex en', q.rt, fun _ _ _ _ _ _ z => z.elim, fun _ _ _ _ _ _ z => z.elim⟩
theorem wx_seq (h : WOw K E e s ρ B O { κx with nx := fun ρ' O' B' => WOw K E e us ρ' B' O' κx }) : WOw K E e (tSeq s us) ρ B O κx := fun σ H G Dn G0 H0 B0 en ow ex x q =>
  h σ H G { Dn with nx := us Dn } G0 H0 B0 en ow ex x ⟨fun ρ' O' σ' B' G' H' hz ex' en' ow' => hz σ' H' G' Dn G0 H0 B0 en' ow' ex' x q, q.rt, q.bk, q.ct⟩
theorem wx_cut (J : List (Option D) → List (Addr × OC) → Int → Prop) (h1 : WOw K E e s ρ B O { κx with nx := J }) (h2 : ∀ ρ' O' B', J ρ' O' B' → WOw K E e us ρ' B' O' κx) : WOw K E e (tSeq s us) ρ B O κx :=
  wx_seq fun σ H G Dn G0 H0 B0 en ow ex x q => h1 σ H G Dn G0 H0 B0 en ow ex x ⟨fun ρ' O' σ' B' G' H' hz ex' en' ow' => q.nx ρ' O' σ' B' G' H' (h2 _ _ _ hz) ex' en' ow', q.rt, q.bk, q.ct⟩
theorem wx_next (h : κx.nx ρ O B) : WOw K E e tNext ρ B O κx := fun σ H G Dn G0 H0 B0 en ow ex x q => q.nx _ _ _ _ _ _ h ex en ow
theorem wx_ws (h : Ws K E e s ρ B { nx := fun ρ' B' => κx.nx ρ' O B', rt := κx.rt, bk := fun ρ' B' => κx.bk ρ' O B', ct := fun ρ' B' => κx.ct ρ' O B' }) : WOw K E e s ρ B O κx := fun σ H G Dn G0 H0 B0 en ow ex x q =>
  h σ H G Dn ex.sub en (x.ext ex) ⟨fun ρ' σ' B' G' H' hz e1 en' => q.nx ρ' O σ' B' G' H' hz (ex.trans e1) en' (ow.ext e1), q.rt.ext ex, fun ρ' σ' B' G' H' hz e1 en' => q.bk ρ' O σ' B' G' H' hz (ex.trans e1) en' (ow.ext e1), fun ρ' σ' B' G' H' hz e1 en' => q.ct ρ' O σ' B' G' H' hz (ex.trans e1) en' (ow.ext e1)⟩
theorem none_sub {G H : Hp} {a : Addr} (s : Sub G H) (h : H a = none) : G a = none := by
  cases z : G a with
  | none => rfl
  | some u => rw [s _ _ z] at h; cases h
theorem Own1.some {G H : Hp} {a : Addr} {o : OC} (h : Own1 K G H B a o) : ∃ v, H a = some v := by
  cases o with
  | dict l => exact ⟨_, h⟩
  | list es => obtain ⟨vs, h, _⟩ := h; exact ⟨_, h⟩
  | dictD l => obtain ⟨vs, h, _⟩ := h; exact ⟨_, h⟩
  | lckD od l vs => exact ⟨_, h.1⟩
theorem noH0 {G0 H0 G H : Hp} {B0 : Int} {a : Addr} (ex : Ext G0 H0 B0 G H B) (ha : H a = none) : NoH0 G0 H0 a := fun o z y nt => by
  rw [(ex.fr a o z y nt).1] at ha; cases ha
/-- a new thing owned -/
theorem owns_cons {G0 H0 G H : Hp} {B0 : Int} {a : Addr} {o : OC} {u : HO} (ow : Owns K G0 H0 G H B O) (ex : Ext G0 H0 B0 G H B) (ha : H a = none) (h1 : Own1 K G (upd H a u) B a o) : Owns K G0 H0 G (upd H a u) B ((a, o) :: O) := by
  refine ⟨List.nodup_cons.mpr ⟨fun hm => ?_, ow.nd⟩, fun x hx => ?_⟩
  · obtain ⟨c, hc, ec⟩ := List.mem_map.mp hm
    obtain ⟨v, hv⟩ := (ow.at_ c hc).2.2.some
    have ec : c.1 = a := ec
    rw [ec, ha] at hv; cases hv
  · rcases List.mem_cons.mp hx with rfl | hx
    · exact ⟨noH0 ex ha, none_sub ex.sub ha, h1⟩
    · obtain ⟨z1, z2, z3⟩ := ow.at_ x hx
      exact ⟨z1, z2, (z3.ext z2 (Ext.hid (B := B) ex.sub ha)).1⟩
theorem Ext.chgN {G0 H0 G H : Hp} {B0 : Int} {a : Addr} {o : HO} (ex : Ext G0 H0 B0 G H B) (np : NoH0 G0 H0 a) (gp : G a = none) : Ext G0 H0 B0 G (upd H a o) B :=
  ⟨ex.le, fun b u z => by rw [upd_ne (ne_of_none z gp)]; exact ex.sub _ _ z, fun b u z n t => by rw [upd_ne (fun w => by subst w; exact np u z n t)]; exact ex.fr _ _ z n t⟩
/-- a thing owned is changed -/
theorem owns_set {G0 H0 G H : Hp} {a : Addr} {o o' : OC} {u : HO} (ow : Owns K G0 H0 G H B O) (hn : O[n]? = some (a, o)) (h1 : Own1 K G (upd H a u) B a o') : Owns K G0 H0 G (upd H a u) B (O.set n (a, o')) := by
  have hl := (List.getElem?_eq_some_iff.mp hn).1
  have he : (O.set n (a, o')).map (·.1) = O.map (·.1) := by
    apply List.ext_getElem?
    intro m
    rw [List.getElem?_map, List.getElem?_map, List.getElem?_set]
    by_cases q : n = m
    · subst q; rw [if_pos rfl, if_pos hl, hn]; rfl
    · rw [if_neg q]
  refine ⟨by rw [he]; exact ow.nd, fun x hx => ?_⟩
  obtain ⟨m, hm⟩ := List.mem_iff_getElem?.mp hx
  rw [List.getElem?_set] at hm
  by_cases q : n = m
  · subst q
    rw [if_pos rfl, if_pos hl] at hm
    cases hm
    obtain ⟨z1, z2, _⟩ := ow.at_ _ (List.mem_of_getElem? hn)
    exact ⟨z1, z2, h1⟩
  · rw [if_neg q] at hm
    obtain ⟨z1, z2, z3⟩ := ow.at_ _ (List.mem_of_getElem? hm)
    have ne : x.1 ≠ a := fun w => by
      have e1 : (O.map (·.1))[n]? = some a := by rw [List.getElem?_map, hn]; rfl
      have e2 : (O.map (·.1))[m]? = some a := by rw [List.getElem?_map, hm, ← w]; rfl
      have hm' := (List.getElem?_eq_some_iff.mp hm).1
      exact q ((List.getElem?_inj (by rw [List.length_map]; exact hl) ow.nd).mp (e1.trans e2.symm))
    refine ⟨z1, z2, ?_⟩
    revert z3
    cases x.2 with
    | dict l => intro z3; show upd H a u x.1 = _; rw [upd_ne ne]; exact z3
    | list es => rintro ⟨vs, z3, z4⟩; exact ⟨vs, by rw [upd_ne ne]; exact z3, z4⟩
    | dictD l => rintro ⟨vs, z3, z4⟩; exact ⟨vs, by rw [upd_ne ne]; exact z3, z4⟩
    | lckD od l vs => rintro ⟨z3, z4⟩; exact ⟨by rw [upd_ne ne]; exact z3, z4⟩
/-- a thing owned is told -/
theorem owns_tell {G0 H0 G H : Hp} {B0 : Int} {a : Addr} {o : OC} {u : HO} (ow : Owns K G0 H0 G H B ((a, o) :: O)) (ex : Ext G0 H0 B0 G H B) (hu : H a = some u) : Ext G0 H0 B0 (upd G a u) H B ∧ Owns K G0 H0 (upd G a u) H B O ∧ Le G B (upd G a u) B := by
  obtain ⟨np, gp, _⟩ := ow.at_ (a, o) (List.mem_cons_self ..)
  have np : NoH0 G0 H0 a := np
  have gp : G a = none := gp
  have le : Le G B (upd G a u) B := Le.of_sub (fun b o z => by rw [upd_ne (ne_of_none z gp)]; exact z) (Int.le_refl _)
  refine ⟨⟨ex.le.trans le, fun b o z => ?_, fun b o z n t => ?_⟩, ⟨(List.nodup_cons.mp ow.nd).2, fun x hx => ?_⟩, le⟩
  · by_cases w : b = a
    · subst w; rw [upd_same] at z; cases z; exact hu
    · rw [upd_ne w] at z; exact ex.sub _ _ z
  · rw [upd_ne (fun w => by subst w; exact np o z n t)]; exact ex.fr _ _ z n t
  · obtain ⟨z1, z2, z3⟩ := ow.at_ x (List.mem_cons_of_mem _ hx)
    have ne : x.1 ≠ a := fun w => (List.nodup_cons.mp ow.nd).1 (List.mem_map.mpr ⟨x, hx, w⟩)
    refine ⟨z1, by rw [upd_ne ne]; exact z2, ?_⟩
    revert z3
    cases x.2 with
    | dict l => exact fun z3 => z3
    | list es => rintro ⟨vs, z3, z4⟩; exact ⟨vs, z3, z4.mono le⟩
    | dictD l => rintro ⟨vs, z3, z4⟩; exact ⟨vs, z3, z4.mono le⟩
    | lckD od l vs => rintro ⟨z3, z4⟩; exact ⟨z3, z4.mono le⟩
/-- {k: z} -/
theorem wx_newdict (h : We K E e ta ρ B fun d B1 => ∃ c, d = .kt c ∧ We K E e tb ρ B1 fun d2 B2 => ∃ z : Int, d2 = .int z ∧ ∀ p, κx.nx (ρ.set i (some (.val (.ref p)))) ((p, .dict [(c, z)]) :: O) B2) : WOw K E e (tAsg (tDisp1T ta tb) (gName i)) ρ B O κx := fun σ H G Dn G0 H0 B0 en ow ex x q p hp => by
  have eh : Ext G H B G (upd H p (.dT [])) B := Ext.hid ex.sub hp
  refine h σ _ G _ eh.sub en (x.ext (ex.trans eh)) fun d v B1 G1 H1 ⟨c, ed, h2⟩ e1 r1 => h2 σ H1 G1 _ e1.sub (en.mono e1.le) (x.ext (ex.trans (eh.trans e1))) fun d2 v2 B2 G2 H2 ⟨z, ed2, hk⟩ e2 r2 => ?_
  subst ed ed2
  rw [show v2 = _ from r2]
  obtain ⟨b, rfl, hb⟩ := r1.mono e2.le
  have gp := none_sub ex.sub hp
  have e12 := e1.trans e2
  obtain ⟨f1, f2⟩ := e12.fr p (.dT []) upd_same gp ⟨(fun _ z => nomatch z), fun _ z => nomatch z⟩
  have np := noH0 ex hp
  refine ⟨f1, b, c, rfl, e2.sub _ _ hb, ?_⟩
  have ow1 : Owns K G0 H0 G (upd H p (.dT [])) B ((p, .dict []) :: O) := owns_cons ow ex hp (by show upd H p _ p = _; exact upd_same)
  have ow2 := ow1.ext e12
  refine q.nx _ ((p, .dict [(c, z)]) :: O) _ B2 G2 _ (hk p) (((ex.trans eh).trans e12).chgN np f2) (EnvR.set (d := .val (.ref p)) (v := .ref p) rfl i (en.mono e12.le)) ?_
  exact owns_set (n := 0) (o' := .dict [(c, z)]) ow2 rfl (by show upd H2 p _ p = _; exact upd_same)
theorem wx_newlist (hk : ∀ p, κx.nx (ρ.set i (some (.val (.ref p)))) ((p, .list []) :: O) B) : WOw K E e (tAsg (tLst tNil) (gName i)) ρ B O κx := fun σ H G Dn G0 H0 B0 en ow ex x q => by
  refine ⟨by decide, fun p hp => ?_⟩
  exact q.nx _ _ _ B G _ (hk p) (ex.trans (Ext.hid ex.sub hp)) (EnvR.set (d := .val (.ref p)) (v := .ref p) rfl i en) (owns_cons ow ex hp ⟨[], upd_same, rfl⟩)
theorem own_at {G0 H0 G H : Hp} {o : OC} (ow : Owns K G0 H0 G H B O) (hn : O[n]? = some (p, o)) : NoH0 G0 H0 p ∧ G p = none ∧ Own1 K G H B p o := ow.at_ (p, o) (List.mem_of_getElem? hn)
/-- l.append(x) -/
theorem wx_app (hn : O[n]? = some (p, .list es)) (hi : ρ[i]? = some (some (.val (.ref p)))) (h : We K E e ta ρ B fun d B1 => es.length < sizeLine ∧ κx.nx ρ (O.set n (p, .list (es ++ [d]))) B1) : WOw K E e (tDrop (tBM K "list" rAppend (tVar i) (tCons ta tNil))) ρ B O κx := fun σ H G Dn G0 H0 B0 en ow ex x q => by
  obtain ⟨v0, hv0, e0⟩ := en.get hi
  rw [show v0 = _ from e0] at hv0
  obtain ⟨np, gp, vs, hL, hr⟩ := own_at ow hn
  refine ⟨.ref p, hv0, .inl ⟨rfl, vs, SqL.of hL⟩, h σ H G _ ex.sub en (x.ext ex) fun d v B1 G1 H1 ⟨hl, hk⟩ e1 r1 => ?_⟩
  obtain ⟨z1, z2⟩ := e1.fr p _ hL gp ⟨(fun _ z => nomatch z), fun _ z => nomatch z⟩
  refine ⟨p, vs, v, rfl, rfl, z1, by rw [← hr.length]; exact hl, ?_⟩
  exact q.nx _ _ σ B1 G1 _ hk ((ex.trans e1).chgN np z2) (en.mono e1.le) (owns_set (ow.ext e1) hn ⟨_, upd_same, (hr.mono e1.le).append ⟨v, [], rfl, r1, rfl⟩⟩)
theorem putK_new {l : List (List Key × Int)} {c : List Key} {z : Int} (hc : ∀ x ∈ l, x.1 ≠ c) : putK (l.map kvI) c (.int z) = (l ++ [(c, z)]).map kvI := by
  unfold putK
  rw [if_neg (by
    rw [List.any_eq_true]
    rintro ⟨y, hy, hd⟩
    obtain ⟨x, hx, rfl⟩ := List.mem_map.mp hy
    exact hc x hx (of_decide_eq_true hd)), List.map_append]
  rfl
/-- d[k] = z, k new -/
theorem wx_put (hn : O[n]? = some (p, .dict l)) (hi : ρ[i]? = some (some (.val (.ref p)))) (h : We K E e ta ρ B fun d B1 => ∃ z : Int, d = .int z ∧ We K E e tb ρ B1 fun d2 B2 => ∃ c, d2 = .kt c ∧ (∀ x ∈ l, x.1 ≠ c) ∧ l.length < sizeLine ∧ κx.nx ρ (O.set n (p, .dict (l ++ [(c, z)]))) B2) : WOw K E e (sDPut (tVar i) tb ta) ρ B O κx := fun σ H G Dn G0 H0 B0 en ow ex x q => by
  obtain ⟨v0, hv0, e0⟩ := en.get hi
  rw [show v0 = _ from e0] at hv0
  refine h σ H G _ ex.sub en (x.ext ex) fun d v B1 G1 H1 ⟨z, ed, h2⟩ e1 r1 => ⟨.ref p, hv0, h2 σ H1 G1 _ e1.sub (en.mono e1.le) (x.ext (ex.trans e1)) fun d2 v2 B2 G2 H2 ⟨c, ed2, hc, hl, hk⟩ e2 r2 => ?_⟩
  subst ed ed2
  rw [show v = _ from r1]
  obtain ⟨b, rfl, hb⟩ := r2
  have e12 := e1.trans e2
  obtain ⟨np, gp, hD⟩ := own_at (ow.ext e12) hn
  have hD : H2 p = some (.dT (l.map kvI)) := hD
  refine ⟨p, _, rfl, .inr ⟨_, c, b, hD, rfl, e2.sub _ _ hb, by rw [List.length_map]; exact hl, rfl⟩, ?_⟩
  rw [putK_new hc]
  exact q.nx _ _ σ B2 G2 _ hk ((ex.trans e12).chgN np gp) (en.mono e12.le) (owns_set (ow.ext e12) hn (by show upd H2 p _ p = _; exact upd_same))
theorem valV_kvI (l : List (List Key × Int)) (c : List Key) : (valV (l.map kvI) c).isSome = l.any fun x => decide (x.1 = c) := by
  rw [← valV_any, List.any_map]
  rfl
/-- if k not in d -/
theorem wx_if_notin (hn : O[n]? = some (p, .dict l)) (hi : ρ[i]? = some (some (.val (.ref p)))) (h : We K E e ta ρ B fun d B1 => ∃ c, d = .kt c ∧ ((∀ x ∈ l, x.1 ≠ c) → WOw K E e ts ρ B1 O κx) ∧ ((∃ x ∈ l, x.1 = c) → WOw K E e us ρ B1 O κx)) : WOw K E e (tIfS (tB (tDNotIn ta (tVar i))) ts us) ρ B O κx := fun σ H G Dn G0 H0 B0 en ow ex x q => by
  obtain ⟨v0, hv0, e0⟩ := en.get hi
  rw [show v0 = _ from e0] at hv0
  refine h σ H G _ ex.sub en (x.ext ex) fun d v B1 G1 H1 ⟨c, ed, h1, h2⟩ e1 r1 => ⟨.ref p, hv0, ?_⟩
  subst ed
  obtain ⟨b, rfl, hb⟩ := r1
  obtain ⟨np, gp, hD⟩ := own_at (ow.ext e1) hn
  have hD : H1 p = some (.dT (l.map kvI)) := hD
  refine ⟨p, _, rfl, .inr ⟨_, c, b, .inl hD, rfl, e1.sub _ _ hb, rfl⟩, _, rfl, ?_⟩
  rw [valV_kvI]
  cases ha : l.any fun x => decide (x.1 = c) with
  | false =>
    rw [Bool.not_false, if_pos rfl]
    refine h1 (fun y hy e => ?_) σ H1 G1 Dn G0 H0 B0 (en.mono e1.le) (ow.ext e1) (ex.trans e1) x q
    have : (l.any fun x => decide (x.1 = c)) = true := List.any_eq_true.mpr ⟨y, hy, decide_eq_true e⟩
    rw [ha] at this; cases this
  | true =>
    rw [Bool.not_true, if_neg Bool.false_ne_true]
    obtain ⟨y, hy, hd⟩ := List.any_eq_true.mp ha
    exact h2 ⟨y, hy, of_decide_eq_true hd⟩ σ H1 G1 Dn G0 H0 B0 (en.mono e1.le) (ow.ext e1) (ex.trans e1) x q
/-- the list owned is told from here on -/
theorem wx_tell (hi : ρ[i]? = some (some (.val (.ref p)))) (h : WOw K E e s (ρ.set i (some (.lst es))) B O κx) : WOw K E e s ρ B ((p, .list es) :: O) κx := fun σ H G Dn G0 H0 B0 en ow ex x q => by
  obtain ⟨v0, hv0, e0⟩ := en.get hi
  rw [show v0 = _ from e0] at hv0
  obtain ⟨np, gp, vs, hL, hr⟩ := own_at (n := 0) ow rfl
  obtain ⟨ex2, ow2, le⟩ := owns_tell ow ex hL
  have en2 := EnvR.set (d := .lst es) (v := .ref p) ⟨p, vs, rfl, upd_same, hr.mono le⟩ i (en.mono le)
  rw [set_id hv0] at en2
  exact h σ H _ Dn G0 H0 B0 en2 ow2 ex2 x q
/-- the dict owned is told from here on -/
theorem wx_tellD (hi : ρ[i]? = some (some (.val (.ref p)))) (h : WOw K E e s (ρ.set i (some (.dt false (l.map (·.1)) (l.map fun x => D.int x.2)))) B O κx) : WOw K E e s ρ B ((p, .dict l) :: O) κx := fun σ H G Dn G0 H0 B0 en ow ex x q => by
  obtain ⟨v0, hv0, e0⟩ := en.get hi
  rw [show v0 = _ from e0] at hv0
  obtain ⟨np, gp, hD⟩ := own_at (n := 0) ow rfl
  have hD : H p = some (.dT (l.map kvI)) := hD
  obtain ⟨ex2, ow2, le⟩ := owns_tell ow ex hD
  have ez : l.map kvI = (l.map (·.1)).zip (l.map fun x => V.int x.2) := by
    rw [List.zip_map']
    rfl
  have hr : RepL K (upd G p (.dT (l.map kvI))) B (l.map fun x => D.int x.2) (l.map fun x => V.int x.2) := by
    have := RepL.ints (K := K) (G := upd G p (.dT (l.map kvI))) (B := B) (l.map (·.2))
    rw [List.map_map, List.map_map] at this
    exact this
  have en2 := EnvR.set (d := .dt false (l.map (·.1)) (l.map fun x => D.int x.2)) (v := .ref p) ⟨p, l.map fun x => V.int x.2, rfl, .inl (by rw [upd_same, ez]), by rw [List.length_map, List.length_map], hr⟩ i (en.mono le)
  rw [set_id hv0] at en2
  exact h σ H _ Dn G0 H0 B0 en2 ow2 ex2 x q
end
end AW

set_option linter.all false
set_option maxRecDepth 100000
set_option maxHeartbeats 4000000
namespace AW
open PySem PySem.Spec PyProof.Rows L2 RZ LamX
variable [Tbs]
/-! loops with things owned -/
theorem strs_eq {i j : Str} : decide (V.str i = V.str j) = decide (i = j) := by
  by_cases h : i = j
  · subst h; simp
  · simp [h]
section
variable {K : PySem.W.Frag} {E E' : XK} {e : EW} {ρ : List (Option D)} {B : Int} {k : KD} {κ : KS} {κx : KX} {ta tb tc tl te ti : TE} {tt : TT} {t : TA} {s ts us tbody : TS} {g : TG} {i j n : Nat} {ds : List D} {O : List (Addr × OC)} {p : Addr} {l : List (List Key × Int)} {es : List D}
theorem wx_ifT {c : TT} (h : Wt K E e c ρ B fun b B1 => (b = true → WOw K E e ts ρ B1 O κx) ∧ (b = false → WOw K E e us ρ B1 O κx)) : WOw K E e (tIfS c ts us) ρ B O κx := fun σ H G Dn G0 H0 B0 en ow ex x q =>
  h σ H G _ ex.sub en (x.ext ex) fun b B1 G1 H1 ⟨h1, h2⟩ e1 => by
    cases b with
    | true => rw [if_pos rfl]; exact h1 rfl σ H1 G1 Dn G0 H0 B0 (en.mono e1.le) (ow.ext e1) (ex.trans e1) x q
    | false => rw [if_neg Bool.false_ne_true]; exact h2 rfl σ H1 G1 Dn G0 H0 B0 (en.mono e1.le) (ow.ext e1) (ex.trans e1) x q
abbrev IX := Nat → List (Option D) → List (Addr × OC) → Int → Prop
/-- the state of a loop -/
def PX (K : PySem.W.Frag) (I : IX) (G0 H0 : Hp) (B0 : Int) (n : Nat) (σ : L2.St) (H : Hp) : Prop := ∃ ρ' O' B' G', I n ρ' O' B' ∧ Ext G0 H0 B0 G' H B' ∧ EnvR K G' B' ρ' σ ∧ Owns K G0 H0 G' H B' O'
theorem px_step {I : IX} {G0 H0 : Hp} {B0 : Int} {Dn : Ends} {m : Nat} {d : D} {v : V} {σ : L2.St} {H : Hp} {ρ' : List (Option D)} {O' : List (Addr × OC)} {B' : Int} {G' : Hp} (hI : I m ρ' O' B') (e0 : Ext G0 H0 B0 G' H B') (en : EnvR K G' B' ρ' σ) (ow : Owns K G0 H0 G' H B' O') (rv : Rep K G' B' d v)
    (x : XOk K E e G0 H0 B0) (q : XEnds K κx Dn G0 H0 B0) (hs : Wg K g d ρ' B' fun ρ2 B2 => WOw K E e tbody ρ2 B2 O' { nx := I (m + 1), rt := κx.rt, bk := κx.nx, ct := I (m + 1) }) :
    g v σ H fun σ2 H2 => tbody { Dn with nx := PX K I G0 H0 B0 (m + 1), ct := PX K I G0 H0 B0 (m + 1), bk := Dn.nx } σ2 H2 := by
  refine hs v σ H G' _ e0.sub en rv fun ρ2 σ2 B2 G2 H2 h2 e3 en3 => ?_
  exact h2 σ2 H2 G2 _ G0 H0 B0 en3 (ow.ext e3) (e0.trans e3) x ⟨fun ρ3 O3 σ3 B3 G3 H3 h3 e4 en4 ow4 => ⟨ρ3, O3, B3, G3, h3, e4, en4, ow4⟩, q.rt, q.nx, fun ρ3 O3 σ3 B3 G3 H3 h3 e4 en4 ow4 => ⟨ρ3, O3, B3, G3, h3, e4, en4, ow4⟩⟩
theorem wx_for_range1 (h : Wa K E e t ρ B fun as B1 => ∃ m : Int, as = [.int m] ∧ -(2 ^ 62) ≤ m ∧ m < 2 ^ 62 ∧ ∃ I : IX, I 0 ρ O B1 ∧ (∀ n ρ' O' B', n < m.toNat → I n ρ' O' B' → Wg K g (.int (0 + n)) ρ' B' fun ρ2 B2 => WOw K E e tbody ρ2 B2 O' { nx := I (n + 1), rt := κx.rt, bk := κx.nx, ct := I (n + 1) }) ∧ ∀ ρ' O' B', I m.toNat ρ' O' B' → κx.nx ρ' O' B') :
    WOw K E e (tFor (iRng1 t) g tbody) ρ B O κx := fun σ H G Dn G0 H0 B0 en ow ex x q =>
  h σ H G _ ex.sub en (x.ext ex) fun as vs B1 G1 H1 ⟨m, ed, m0, m1, I, i0, hs, hd⟩ e1 r1 => by
    subst ed
    obtain ⟨v, _, rfl, rv, rfl⟩ := r1
    rw [show v = _ from rv]
    refine ⟨m, rfl, m0, m1, for_it walk_range (PX K I G0 H0 B0) ⟨ρ, O, B1, G1, i0, ex.trans e1, en.mono e1.le, ow.ext e1⟩ (fun _ _ _ _ _ => trivial) ?_ ?_⟩
    · rintro n y σ' H' H'' hn ⟨ρ', O', B', G', hI, e0, en2, ow2⟩ ⟨eH, ey⟩
      subst eH ey
      exact px_step (d := .int (0 + n)) hI e0 en2 ow2 rfl x q (hs n ρ' O' B' hn hI)
    · rintro σ' H' ⟨ρ', O', B', G', hI, e0, en2, ow2⟩
      exact q.nx _ _ _ _ _ _ (hd _ _ _ hI) e0 en2 ow2
theorem wx_for_str (h : We K E e te ρ B fun d B1 => ∃ z : Str, d = .str z ∧ ∃ I : IX, I 0 ρ O B1 ∧ (∀ n c ρ' O' B', (chS z)[n]? = some c → I n ρ' O' B' → Wg K g (.str c) ρ' B' fun ρ2 B2 => WOw K E e tbody ρ2 B2 O' { nx := I (n + 1), rt := κx.rt, bk := κx.nx, ct := I (n + 1) }) ∧ ∀ ρ' O' B', I (chS z).length ρ' O' B' → κx.nx ρ' O' B') :
    WOw K E e (tFor (iStr te) g tbody) ρ B O κx := fun σ H G Dn G0 H0 B0 en ow ex x q =>
  h σ H G _ ex.sub en (x.ext ex) fun d v B1 G1 H1 ⟨z, ed, I, i0, hs, hd⟩ e1 r1 => by
    subst ed
    rw [show v = _ from r1]
    rw [chS_len] at hd
    refine ⟨z, rfl, for_it walk_str (PX K I G0 H0 B0) ⟨ρ, O, B1, G1, i0, ex.trans e1, en.mono e1.le, ow.ext e1⟩ (fun _ _ _ _ _ => trivial) ?_ ?_⟩
    · rintro n y σ' H' H'' hn ⟨ρ', O', B', G', hI, e0, en2, ow2⟩ ⟨eH, c, hc, ey⟩
      subst eH ey
      exact px_step (d := .str ⟨#[c]⟩) hI e0 en2 ow2 rfl x q (hs n _ ρ' O' B' (chS_get hc) hI)
    · rintro σ' H' ⟨ρ', O', B', G', hI, e0, en2, ow2⟩
      exact q.nx _ _ _ _ _ _ (hd _ _ _ hI) e0 en2 ow2
/-- for x in l, l a variable's list -/
theorem wx_for_list (hj : ρ[j]? = some (some (.lst ds))) (h : ∀ u : V, ∃ I : IX, I 0 (ρ.set j (some (.at_ u (.lst ds)))) O B ∧ (∀ n ρ' O' B', I n ρ' O' B' → ρ'[j]? = some (some (.at_ u (.lst ds)))) ∧ (∀ n d ρ' O' B', ds[n]? = some d → I n ρ' O' B' → Wg K g d ρ' B' fun ρ2 B2 => WOw K E e tbody ρ2 B2 O' { nx := I (n + 1), rt := κx.rt, bk := κx.nx, ct := I (n + 1) }) ∧ ∀ ρ' O' B', I ds.length ρ' O' B' → κx.nx ρ' O' B') :
    WOw K E e (tFor (iList K (tVar j)) g tbody) ρ B O κx := fun σ H G Dn G0 H0 B0 en ow ex x q => by
  obtain ⟨v0, hv0, a, vs, rfl, ha, hr⟩ := en.get hj
  obtain ⟨I, i0, hI, hs, hd⟩ := h (.ref a)
  have en0 := EnvR.set (d := .at_ (.ref a) (.lst ds)) (v := .ref a) ⟨rfl, a, vs, rfl, ha, hr⟩ j en
  rw [set_id hv0] at en0
  have ha2 : SqL K H a vs := SqL.of (ex.sub _ _ ha)
  refine ⟨.ref a, hv0, a, rfl, ⟨vs, ha2⟩, ?_⟩
  refine ⟨fun i m σ H => m = ds.length - i ∧ i ≤ ds.length ∧ PX K I G0 H0 B0 i σ H, ⟨ds.length, by simp, Nat.zero_le _, ρ.set j (some (.at_ (.ref a) (.lst ds))), O, B, G, i0, ex, en0, ow⟩, ?_⟩
  rintro i m σ' H' ⟨rfl, hi, ρ', O', B', G', hI', e0, en2, ow2⟩
  obtain ⟨v1, hv1, rv1⟩ := en2.get (hI i ρ' O' B' hI')
  obtain ⟨ev, a', vs', ea, ha', hr'⟩ := rv1
  rw [ev] at ea
  cases ea
  have hq : SqL K H' a vs' := SqL.of (e0.sub _ _ ha')
  have hlen := hr'.length
  by_cases hlt : i < ds.length
  · refine .inr ⟨⟨vs', vs'[i], hq, by simp [show i < vs'.length by omega]⟩, PX K I G0 H0 B0 (i + 1), fun σ2 H2 p' => ⟨ds.length - (i + 1), by omega, rfl, hlt, p'⟩, fun y H'' hy => ?_⟩
    obtain ⟨eH, hy⟩ := hy
    subst eH
    obtain ⟨d, hdx, rx⟩ := hr'.get' (hy vs' hq)
    exact px_step hI' e0 en2 ow2 rx x q (hs i d ρ' O' B' hdx hI')
  · have e1 : i = ds.length := by omega
    subst e1
    exact .inl ⟨⟨vs', hq, by omega⟩, q.nx _ _ _ _ _ _ (hd _ _ _ hI') e0 en2 ow2⟩
end
end AW

set_option linter.all false
set_option maxRecDepth 100000
set_option maxHeartbeats 4000000
namespace AW
open PySem PySem.Spec PyProof.Rows L2 RZ LamX
variable [Tbs]
/-! dicts owned with any values: put, get, gone over -/
def putD (l : List (List Key × D)) (c : List Key) (d : D) : List (List Key × D) := if (l.any fun x => decide (x.1 = c)) = true then l.map (fun x => if x.1 = c then (x.1, d) else x) else l ++ [(c, d)]
section
variable {K : PySem.W.Frag} {E E' : XK} {e : EW} {ρ : List (Option D)} {B : Int} {k : KD} {κ : KS} {κx : KX} {ta tb tc tl te ti : TE} {tt : TT} {t : TA} {s ts us tbody : TS} {g : TG} {i j n : Nat} {ds : List D} {O : List (Addr × OC)} {p : Addr} {l : List (List Key × D)} {es : List D} {r : R2}
theorem any_zip : ∀ {l : List (List Key × D)} {vs : List V} (c : List Key), l.length = vs.length → ((l.map (·.1)).zip vs).any (fun kv => decide (kv.1 = c)) = l.any fun x => decide (x.1 = c)
  | [], [], _, _ => rfl
  | [], _ :: _, _, h => nomatch h
  | _ :: _, [], _, h => nomatch h
  | x :: l, v :: vs, c, h => by
    rw [List.map_cons, List.zip_cons_cons, List.any_cons, List.any_cons, any_zip c (Nat.succ.inj h)]
theorem map_zip {G : Hp} {d : D} {v : V} (rv : Rep K G B d v) (c : List Key) : ∀ {l : List (List Key × D)} {vs : List V}, RepL K G B (l.map (·.2)) vs → ∃ vs', ((l.map (·.1)).zip vs).map (fun kv => if kv.1 = c then (kv.1, v) else kv) = ((l.map fun x => if x.1 = c then (x.1, d) else x).map (·.1)).zip vs' ∧ RepL K G B ((l.map fun x => if x.1 = c then (x.1, d) else x).map (·.2)) vs'
  | [], vs, h => ⟨[], by rfl, rfl⟩
  | x :: l, vs, h => by
    obtain ⟨u, w, rfl, h1, h2⟩ := h
    obtain ⟨vs', e1, e2⟩ := map_zip rv c h2
    by_cases q : x.1 = c
    · refine ⟨v :: vs', ?_, ?_⟩
      · simp only [List.map_cons, List.zip_cons_cons, if_pos q, e1]
      · simp only [List.map_cons, if_pos q]; exact ⟨_, _, rfl, rv, e2⟩
    · refine ⟨u :: vs', ?_, ?_⟩
      · simp only [List.map_cons, List.zip_cons_cons, if_neg q, e1]
      · simp only [List.map_cons, if_neg q]; exact ⟨_, _, rfl, h1, e2⟩
theorem putK_D {G : Hp} {d : D} {v : V} {vs : List V} (rv : Rep K G B d v) (c : List Key) (hr : RepL K G B (l.map (·.2)) vs) : ∃ vs', putK ((l.map (·.1)).zip vs) c v = ((putD l c d).map (·.1)).zip vs' ∧ RepL K G B ((putD l c d).map (·.2)) vs' := by
  have hl : l.length = vs.length := by have := hr.length; rwa [List.length_map] at this
  unfold putK putD
  rw [any_zip c hl]
  by_cases q : (l.any fun x => decide (x.1 = c)) = true
  · rw [if_pos q, if_pos q]; exact map_zip rv c hr
  · rw [if_neg q, if_neg q]
    refine ⟨vs ++ [v], ?_, ?_⟩
    · rw [List.map_append, List.zip_append (by rw [List.length_map]; exact hl)]; rfl
    · rw [List.map_append]; exact hr.append ⟨v, [], rfl, rv, rfl⟩
/-- an expression while things are owned -/
def WeO (K : PySem.W.Frag) (E : XK) (e : EW) (t : TE) (ρ : List (Option D)) (B : Int) (O : List (Addr × OC)) (k : KD) : Prop := ∀ σ H G G0 H0 B0 Q, EnvR K G B ρ σ → Owns K G0 H0 G H B O → Ext G0 H0 B0 G H B → XOk K E e G0 H0 B0 → KOk K k Q G H B → t σ H Q
theorem weo_we (h : We K E e ta ρ B k) : WeO K E e ta ρ B O k := fun σ H G G0 H0 B0 Q en ow ex x q => h σ H G Q ex.sub en (x.ext ex) q
theorem weo_op (h : WeO K E e ta ρ B O fun d1 B1 => WeO K E e tb ρ B1 O fun d2 B2 => Ro K E e r d1 d2 B2 k) : WeO K E e (tOp r ta tb) ρ B O k := fun σ H G G0 H0 B0 Q en ow ex x q =>
  h σ H G G0 H0 B0 _ en ow ex x fun d1 v1 B1 G1 H1 h1 e1 r1 => h1 σ H1 G1 G0 H0 B0 _ (en.mono e1.le) (ow.ext e1) (ex.trans e1) x fun d2 v2 B2 G2 H2 h2 e2 r2 =>
    h2 v1 v2 H2 G2 _ e2.sub (r1.mono e2.le) r2 (x.ext (ex.trans (e1.trans e2))) (q.ext (e1.trans e2))
/-- d.get(k, z), d owned -/
theorem weo_get2 (hn : O[n]? = some (p, .dictD l)) (hi : ρ[i]? = some (some (.val (.ref p)))) (h : We K E e tb ρ B fun kd B1 => ∃ c, kd = .kt c ∧ We K E e tc ρ B1 fun z B2 => k ((lkD l c).getD z) B2) : WeO K E e (tDGet2 (tVar i) tb tc) ρ B O k := fun σ H G G0 H0 B0 Q en ow ex x q => by
  obtain ⟨v0, hv0, e0⟩ := en.get hi
  rw [show v0 = _ from e0] at hv0
  obtain ⟨_, _, vs0, hD0, _⟩ := own_at ow hn
  refine ⟨.ref p, hv0, p, rfl, .inr ⟨_, .inl hD0⟩, h σ H G _ ex.sub en (x.ext ex) fun kd y B1 G1 H1 ⟨c, ek, h2⟩ e1 r1 => h2 σ H1 G1 _ e1.sub (en.mono e1.le) (x.ext (ex.trans e1)) fun z w B2 G2 H2 hk e2 r2 => ?_⟩
  subst ek
  obtain ⟨b, rfl, hb⟩ := r1.mono e2.le
  obtain ⟨_, _, vs, hD, hr⟩ := own_at (ow.ext (e1.trans e2)) hn
  obtain ⟨o, ho, hs, hS, hN⟩ := dt_get hr c
  refine ⟨o, .inr ⟨_, c, b, .inl hD, rfl, e2.sub _ _ hb, ho.symm⟩, q _ _ _ _ _ hk (e1.trans e2) ?_⟩
  cases el : lkD l c with
  | none => rw [hN el]; exact r2
  | some d => obtain ⟨v, hv, rv⟩ := hS d el; rw [hv]; exact rv
theorem wx_newD1 (h : We K E e ta ρ B fun d B1 => ∃ c, d = .kt c ∧ We K E e tb ρ B1 fun d2 B2 => ∀ p, κx.nx (ρ.set i (some (.val (.ref p)))) ((p, .dictD [(c, d2)]) :: O) B2) : WOw K E e (tAsg (tDisp1T ta tb) (gName i)) ρ B O κx := fun σ H G Dn G0 H0 B0 en ow ex x q p hp => by
  have eh : Ext G H B G (upd H p (.dT [])) B := Ext.hid ex.sub hp
  refine h σ _ G _ eh.sub en (x.ext (ex.trans eh)) fun d v B1 G1 H1 ⟨c, ed, h2⟩ e1 r1 => h2 σ H1 G1 _ e1.sub (en.mono e1.le) (x.ext (ex.trans (eh.trans e1))) fun d2 v2 B2 G2 H2 hk e2 r2 => ?_
  subst ed
  obtain ⟨b, rfl, hb⟩ := r1.mono e2.le
  have gp := none_sub ex.sub hp
  have e12 := e1.trans e2
  obtain ⟨f1, f2⟩ := e12.fr p (.dT []) upd_same gp ⟨(fun _ z => nomatch z), fun _ z => nomatch z⟩
  have np := noH0 ex hp
  refine ⟨f1, b, c, rfl, e2.sub _ _ hb, ?_⟩
  have ow1 : Owns K G0 H0 G (upd H p (.dT [])) B ((p, .dictD []) :: O) := owns_cons ow ex hp ⟨[], upd_same, rfl⟩
  have ow2 := ow1.ext e12
  refine q.nx _ ((p, .dictD [(c, d2)]) :: O) _ B2 G2 _ (hk p) (((ex.trans eh).trans e12).chgN np f2) (EnvR.set (d := .val (.ref p)) (v := .ref p) rfl i (en.mono e12.le)) ?_
  exact owns_set (n := 0) (o' := .dictD [(c, d2)]) ow2 rfl ⟨[v2], upd_same, v2, [], rfl, r2, rfl⟩
theorem wx_newD0 (hk : ∀ p, κx.nx (ρ.set i (some (.val (.ref p)))) ((p, .dictD []) :: O) B) : WOw K E e (tAsg tDNewT (gName i)) ρ B O κx := fun σ H G Dn G0 H0 B0 en ow ex x q p hp =>
  q.nx _ _ _ B G _ (hk p) (ex.trans (Ext.hid ex.sub hp)) (EnvR.set (d := .val (.ref p)) (v := .ref p) rfl i en) (owns_cons ow ex hp ⟨[], upd_same, rfl⟩)
/-- d[k] = v, d owned -/
theorem wx_putD (hn : O[n]? = some (p, .dictD l)) (hi : ρ[i]? = some (some (.val (.ref p)))) (h : WeO K E e ta ρ B O fun d B1 => We K E e tb ρ B1 fun d2 B2 => ∃ c, d2 = .kt c ∧ l.length < sizeLine ∧ κx.nx ρ (O.set n (p, .dictD (putD l c d))) B2) : WOw K E e (sDPut (tVar i) tb ta) ρ B O κx := fun σ H G Dn G0 H0 B0 en ow ex x q => by
  obtain ⟨v0, hv0, e0⟩ := en.get hi
  rw [show v0 = _ from e0] at hv0
  refine h σ H G G0 H0 B0 _ en ow ex x fun d v B1 G1 H1 h2 e1 r1 => ⟨.ref p, hv0, h2 σ H1 G1 _ e1.sub (en.mono e1.le) (x.ext (ex.trans e1)) fun d2 v2 B2 G2 H2 ⟨c, ed2, hl, hk⟩ e2 r2 => ?_⟩
  subst ed2
  obtain ⟨b, rfl, hb⟩ := r2
  have e12 := e1.trans e2
  obtain ⟨np, gp, vs, hD, hr⟩ := own_at (ow.ext e12) hn
  have hlen : ((l.map (·.1)).zip vs).length < sizeLine := by rw [List.length_zip, List.length_map]; omega
  obtain ⟨vs', e3, r3⟩ := putK_D (r1.mono e2.le) c hr
  refine ⟨p, _, rfl, .inr ⟨_, c, b, hD, rfl, e2.sub _ _ hb, hlen, rfl⟩, ?_⟩
  rw [e3]
  exact q.nx _ _ σ B2 G2 _ hk ((ex.trans e12).chgN np gp) (en.mono e12.le) (owns_set (ow.ext e12) hn ⟨vs', upd_same, r3⟩)
/-- the dict owned is told from here on -/
theorem wx_tellDD (hi : ρ[i]? = some (some (.val (.ref p)))) (h : WOw K E e s (ρ.set i (some (dtD false l))) B O κx) : WOw K E e s ρ B ((p, .dictD l) :: O) κx := fun σ H G Dn G0 H0 B0 en ow ex x q => by
  obtain ⟨v0, hv0, e0⟩ := en.get hi
  rw [show v0 = _ from e0] at hv0
  obtain ⟨np, gp, vs, hD, hr⟩ := own_at (n := 0) ow rfl
  obtain ⟨ex2, ow2, le⟩ := owns_tell ow ex hD
  have hlen := hr.length
  have en2 := EnvR.set (d := dtD false l) (v := .ref p) ⟨p, vs, rfl, .inl upd_same, by rw [List.length_map] at hlen ⊢; exact hlen, hr.mono le⟩ i (en.mono le)
  rw [set_id hv0] at en2
  exact h σ H _ Dn G0 H0 B0 en2 ow2 ex2 x q
/-- what is owned is forgotten -/
theorem wx_drop {O' : List (Addr × OC)} (hs : O'.Sublist O) (h : WOw K E e s ρ B O' κx) : WOw K E e s ρ B O κx := fun σ H G Dn G0 H0 B0 en ow ex x q =>
  h σ H G Dn G0 H0 B0 en ⟨ow.nd.sublist (hs.map _), fun y hy => ow.at_ y (hs.subset hy)⟩ ex x q
theorem wg_kt {ks : List Key} {kk : KE'} (h : Wg K g (.tup (ks.map kD)) ρ B kk) : Wg K g (.kt ks) ρ B kk := fun v σ H G Q sb en rv q => h v σ H G Q sb en rv.ktT q
theorem Ext.lockO {G0 H0 G H : Hp} {B0 : Int} {a : Addr} {o : HO} (ex : Ext G0 H0 B0 G H B) (np : NoH0 G0 H0 a) (gp : G a = none) : Ext G0 H0 B0 G (upd H a o) B := ex.chgN np gp
/-- for k in d, d owned: locked meanwhile -/
theorem wx_for_dictO (hn : O[n]? = some (p, .dictD l)) (hi : ρ[i]? = some (some (.val (.ref p)))) (h : ∀ od vs, ∃ I : IX, I 0 ρ (O.set n (p, .lckD od l vs)) B ∧ (∀ m ρ' O' B', I m ρ' O' B' → O'[n]? = some (p, .lckD od l vs)) ∧ (∀ m x ρ' O' B', l[m]? = some x → I m ρ' O' B' → Wg K g (.kt x.1) ρ' B' fun ρ2 B2 => WOw K E e tbody ρ2 B2 O' { nx := I (m + 1), rt := fun _ _ => False, bk := fun _ _ _ => False, ct := I (m + 1) }) ∧ ∀ ρ' O' B', I l.length ρ' O' B' → κx.nx ρ' (O'.set n (p, .dictD l)) B') :
    WOw K E e (tLock (tFor (iKeys (tVar i)) g tbody)) ρ B O κx := fun σ H G Dn G0 H0 B0 en ow ex x q => by
  obtain ⟨v0, hv0, e0⟩ := en.get hi
  rw [show v0 = _ from e0] at hv0
  obtain ⟨np, gp, vs, hD, hr⟩ := own_at ow hn
  have hlen : ((l.map (·.1)).zip vs).length = l.length := by
    have := hr.length
    rw [List.length_map] at this
    rw [List.length_zip, List.length_map]; omega
  refine ⟨p, _, hD, trivial, fun od => ?_⟩
  obtain ⟨I, i0, hI, hs, hd⟩ := h od vs
  have ow1 : Owns K G0 H0 G (upd H p (.frz od (.dT ((l.map (·.1)).zip vs)))) B (O.set n (p, .lckD od l vs)) := owns_set ow hn ⟨upd_same, hr⟩
  have ex1 : Ext G0 H0 B0 G (upd H p (.frz od (.dT ((l.map (·.1)).zip vs)))) B := ex.chgN np gp
  refine ⟨.ref p, hv0, p, od, rfl, .inr ⟨_, upd_same, ?_⟩⟩
  refine for_it walk_keysT (PX K I G0 H0 B0) ⟨ρ, _, B, G, i0, ex1, en, ow1⟩ (fun m σ' H' _ ⟨ρ', O', B', G', hI', e1, en', ow'⟩ => (own_at ow' (hI _ _ _ _ hI')).2.2.1) ?_ ?_
  · rintro m y σ' H' H'' hm ⟨ρ', O', B', G', hI', e1, en', ow'⟩ ⟨eH, c, v, b, hc, ey, hb⟩
    subst eH ey
    have hx : ∃ x, l[m]? = some x ∧ x.1 = c := by
      rw [List.getElem?_zip_eq_some] at hc
      obtain ⟨h1, _⟩ := hc
      rw [List.getElem?_map] at h1
      obtain ⟨x, hx, ex⟩ := Option.map_eq_some_iff.mp h1
      exact ⟨x, hx, ex⟩
    obtain ⟨x', hx, ex'⟩ := hx
    subst ex'
    have eL := Ext.learn (B := B') e1.sub hb
    refine hs m x' ρ' O' B' hx hI' (.ref b) σ' H'' _ _ eL.sub (en'.mono eL.le) (show Rep K _ B' (.kt x'.1) (.ref b) from ⟨b, rfl, upd_same⟩) fun ρ2 σ2 B2 G2 H2 h2 e3 en3 => ?_
    exact h2 σ2 H2 G2 _ G0 H0 B0 en3 ((ow'.ext eL).ext e3) (e1.trans (eL.trans e3)) x ⟨fun ρ3 O3 σ3 B3 G3 H3 h3 e4 en4 ow4 => ⟨ρ3, O3, B3, G3, h3, e4, en4, ow4⟩, fun _ _ _ _ _ z => z.elim, fun _ _ _ _ _ _ z => z.elim, fun ρ3 O3 σ3 B3 G3 H3 h3 e4 en4 ow4 => ⟨ρ3, O3, B3, G3, h3, e4, en4, ow4⟩⟩
  · rintro σ' H' ⟨ρ', O', B', G', hI', e1, en', ow'⟩
    rw [hlen] at hI'
    obtain ⟨np', gp', hD', hr'⟩ := own_at ow' (hI _ _ _ _ hI')
    exact ⟨hD', q.nx _ _ _ _ _ _ (hd _ _ _ hI') (e1.chgN np' gp') en' (owns_set ow' (hI _ _ _ _ hI') ⟨vs, upd_same, hr'⟩)⟩
end
end AW

set_option linter.all false
set_option maxRecDepth 100000
set_option maxHeartbeats 4000000
namespace AW
open PySem PySem.Spec PyProof.Rows L2 RZ LamX
variable [Tbs]
/-! sorted ints, list(range(a, b)), a <= b <= c -/
def rgI (a b : Int) : List Int := (List.range (b - a).toNat).map fun i => a + (i : Nat)
theorem rgI_mem {a b z : Int} : z ∈ rgI a b ↔ a ≤ z ∧ z < b := by
  unfold rgI
  rw [List.mem_map]
  constructor
  · rintro ⟨i, hi, rfl⟩
    rw [List.mem_range] at hi
    omega
  · rintro ⟨h1, h2⟩
    exact ⟨(z - a).toNat, by rw [List.mem_range]; omega, by omega⟩
theorem rgI_lt (a b : Int) : (rgI a b).Pairwise (· < ·) := by
  unfold rgI
  rw [List.pairwise_map]
  exact List.pairwise_lt_range.imp fun h => by omega
theorem ext_sorted : ∀ {L M : List Int}, L.Pairwise (· < ·) → M.Pairwise (· < ·) → (∀ a, a ∈ L ↔ a ∈ M) → L = M
  | [], [], _, _, _ => rfl
  | [], b :: M, _, _, h => nomatch (h b).mpr (List.mem_cons_self ..)
  | a :: L, [], _, _, h => nomatch (h a).mp (List.mem_cons_self ..)
  | a :: L, b :: M, hL, hM, h => by
    rw [List.pairwise_cons] at hL hM
    have e : a = b := by
      rcases List.mem_cons.mp ((h a).mp (List.mem_cons_self ..)) with e | e
      · exact e
      · rcases List.mem_cons.mp ((h b).mpr (List.mem_cons_self ..)) with e' | e'
        · exact e'.symm
        · have := hM.1 a e
          have := hL.1 b e'
          omega
    subst e
    rw [ext_sorted hL.2 hM.2 fun z => ?_]
    constructor
    · intro hz
      rcases List.mem_cons.mp ((h z).mp (List.mem_cons_of_mem _ hz)) with e | e
      · subst e; have := hL.1 z hz; omega
      · exact e
    · intro hz
      rcases List.mem_cons.mp ((h z).mpr (List.mem_cons_of_mem _ hz)) with e | e
      · subst e; have := hM.1 z hz; omega
      · exact e
/-- sorted, without repeats, all from a to b - 1 -/
theorem sorted_rg {a b : Int} {L ns : List Int} (hp : ns.Perm L) (hs : ns.Pairwise (· ≤ ·)) (nd : L.Nodup) (hm : ∀ z, z ∈ L ↔ a ≤ z ∧ z < b) : ns = rgI a b := by
  refine ext_sorted ?_ (rgI_lt a b) fun z => ?_
  · have nd' : ns.Nodup := hp.symm.nodup nd
    exact (hs.and nd').imp fun h => by have := h.1; have := h.2; omega
  · rw [hp.mem_iff, hm, rgI_mem]
section
variable {K : PySem.W.Frag} {E E' E1 : XK} {e : EW} {ρ : List (Option D)} {B : Int} {k : KD} {ta tb tc : TE} {t : TA} {r r' : R2}
theorem RepL.intsV {G : Hp} : ∀ (ns : List Int) {vs : List V}, RepL K G B (ns.map D.int) vs → vs = ns.map V.int
  | [], _, h => h
  | z :: r, _, ⟨v, w, e, h1, h2⟩ => by rw [e, show v = _ from h1, RepL.intsV r h2]; rfl
theorem we_sortedI (h : Wa K E e t ρ B fun as B1 => ∃ ns : List Int, as = [.lst (ns.map D.int)] ∧ ∀ ns' : List Int, ns'.Perm ns → ns'.Pairwise (· ≤ ·) → k (.lst (ns'.map D.int)) B1) : We K E e (tCB (rSortedI K) t) ρ B k :=
  we_cb fun σ H G Q s en x q => h σ H G Q s en x fun ds vs B1 G1 H1 ⟨ns, ed, hk⟩ e1 r1 => q ds vs B1 G1 H1 (fun ws H2 G2 Q2 s2 r2 q2 => by
    subst ed
    obtain ⟨v, _, rfl, ⟨a, us, rfl, ha, hr⟩, rfl⟩ := r2
    have ev : us = ns.map V.int := RepL.intsV ns hr
    subst ev
    exact ⟨a, ns, rfl, SqL.of (s2 _ _ ha), fun ns' p h1 h2 hp => q2 _ _ _ _ _ (hk ns' h1 h2) (Ext.new s2 hp) ⟨p, _, rfl, upd_same, RepL.ints ns'⟩⟩) e1 r1
theorem we_listRg2 (h : We K E e ta ρ B fun d1 B1 => We K E e tb ρ B1 fun d2 B2 => ∃ i j : Int, d1 = .int i ∧ d2 = .int j ∧ RgOk i j ∧ k (.lst ((rgI i j).map D.int)) B2) : We K E e (tLstRg (tRg2 ta tb)) ρ B k := fun σ H G Q s en x q =>
  h σ H G _ s en x fun d1 v1 B1 G1 H1 h1 e1 r1 => h1 σ H1 G1 _ e1.sub (en.mono e1.le) (x.ext e1) fun d2 v2 B2 G2 H2 ⟨i, j, ed1, ed2, ok, hk⟩ e2 r2 => by
    subst ed1 ed2
    refine ⟨i, j, r1, r2, ok, fun p hp => ?_⟩
    have ev : rgV i j = (rgI i j).map V.int := by unfold rgV rgI; rw [List.map_map]; rfl
    rw [ev]
    exact q _ _ _ _ _ hk ((e1.trans e2).trans (Ext.new (e1.trans e2).sub hp)) ⟨p, _, rfl, upd_same, RepL.ints _⟩
/-- a op b op' c -/
theorem we_chain (h : We K E e ta ρ B fun d1 B1 => We K E e tb ρ B1 fun d2 B2 => Ro K E e r d1 d2 B2 fun z B3 => ∃ b, z = .bl b ∧ (b = true → We K E e tc ρ B3 fun d3 B4 => Ro K E e r' d2 d3 B4 k) ∧ (b = false → k (.bl false) B3)) : We K E e (tChain r r' ta tb tc) ρ B k := fun σ H G Q s en x q =>
  h σ H G _ s en x fun d1 v1 B1 G1 H1 h1 e1 r1 => h1 σ H1 G1 _ e1.sub (en.mono e1.le) (x.ext e1) fun d2 v2 B2 G2 H2 h2 e2 r2 =>
    h2 v1 v2 H2 G2 _ e2.sub (r1.mono e2.le) r2 (x.ext (e1.trans e2)) fun z w B3 G3 H3 ⟨b, ez, ht, hf⟩ e3 r3 => by
      subst ez
      refine ⟨b, r3, ?_⟩
      cases b with
      | true =>
        rw [if_pos rfl]
        exact ht rfl σ H3 G3 _ e3.sub (en.mono (e1.trans (e2.trans e3)).le) (x.ext (e1.trans (e2.trans e3))) fun d3 v3 B4 G4 H4 h4 e4 r4 => h4 v2 v3 H4 G4 Q e4.sub (r2.mono (e3.trans e4).le) r4 (x.ext (e1.trans (e2.trans (e3.trans e4)))) (q.ext (e1.trans (e2.trans (e3.trans e4))))
      | false =>
        rw [if_neg Bool.false_ne_true]
        exact q _ _ _ _ _ (hf rfl) (e1.trans (e2.trans e3)) rfl
end
end AW

set_option linter.all false
set_option maxRecDepth 100000
set_option maxHeartbeats 4000000
/-! sorted triples; lists that a function hands over as the caller's own -/
namespace AW
open PySem PySem.Spec PyProof.Rows L2 RZ LamX
variable [Tbs]
abbrev kT3 (p : I3) : D := .kt [.inl p.1, .inl p.2.1, .inl p.2.2]
def getT3 (G : Hp) : V → I3
  | .ref a => match G a with
    | some (.tup [.int x, .int y, .int z]) => (x, y, z)
    | _ => (0, 0, 0)
  | _ => (0, 0, 0)
theorem getT3_eq {G : Hp} {a : Addr} {p : I3} (h : G a = some (.tup [V.int p.1, V.int p.2.1, V.int p.2.2])) : getT3 G (.ref a) = p := by
  show (match G a with | some (.tup [.int x, .int y, .int z]) => (x, y, z) | _ => (0, 0, 0)) = p
  rw [h]
section
variable {K : PySem.W.Frag}
theorem repT3 {G : Hp} {B : Int} : ∀ {ps : List I3} {vs : List V}, RepL K G B (ps.map kT3) vs → ps = vs.map (getT3 G) ∧ ∀ y ∈ vs, ∃ t, y = .ref t ∧ G t = some (.tup ((l3 (getT3 G y)).map V.int))
  | [], _, h => by
    obtain rfl : _ = [] := h
    exact ⟨rfl, fun y hy => nomatch hy⟩
  | p :: r, _, h => by
    obtain ⟨v, w, rfl, ⟨a, rfl, ha⟩, hr⟩ := h
    have ha : G a = some (.tup [V.int p.1, V.int p.2.1, V.int p.2.2]) := ha
    obtain ⟨h1, h2⟩ := repT3 hr
    have e := getT3_eq ha
    refine ⟨by rw [List.map_cons, ← h1, e], fun y hy => ?_⟩
    rcases List.mem_cons.mp hy with rfl | hy
    · refine ⟨a, rfl, ?_⟩
      rw [e]
      exact ha
    · exact h2 y hy
theorem repT3' {G : Hp} {B : Int} : ∀ {vs : List V}, (∀ y ∈ vs, ∃ t, y = .ref t ∧ G t = some (.tup ((l3 (getT3 G y)).map V.int))) → RepL K G B ((vs.map (getT3 G)).map kT3) vs
  | [], _ => rfl
  | v :: r, h => by
    obtain ⟨t, e, ht⟩ := h v (List.mem_cons_self ..)
    subst e
    exact ⟨_, _, rfl, ⟨t, rfl, ht⟩, repT3' fun y hy => h y (List.mem_cons_of_mem _ hy)⟩
variable {E E' : XK} {e : EW} {ρ : List (Option D)} {B : Int} {k : KD} {κ : KS} {κx : KX} {ta tb tc tl te ti : TE} {tt : TT} {t : TA} {s ts us tbody : TS} {g : TG} {i j n : Nat} {ds : List D} {O : List (Addr × OC)} {p : Addr} {l : List (List Key × Int)} {es : List D}
theorem we_sortedT3 (h : Wa K E e t ρ B fun as B1 => ∃ ps : List I3, as = [.lst (ps.map kT3)] ∧ ∀ ps' : List I3, ps'.Perm ps → ps'.Pairwise (fun x y => HT.lexLt (l3 y) (l3 x) = false) → k (.lst (ps'.map kT3)) B1) : We K E e (tCB (rSortedT3 K) t) ρ B k :=
  we_cb fun σ H G Q s en x q => h σ H G Q s en x fun ds vs B1 G1 H1 ⟨ps, ed, hk⟩ e1 r1 => q ds vs B1 G1 H1 (fun ws H2 G2 Q2 s2 r2 q2 => by
    subst ed
    obtain ⟨v, _, rfl, ⟨a, us, rfl, ha, hr⟩, rfl⟩ := r2
    obtain ⟨h1, h2⟩ := repT3 hr
    refine ⟨a, us, getT3 G2, rfl, SqL.of (s2 _ _ ha), fun y hy => ?_, fun zs p hz hs hp => ?_⟩
    · obtain ⟨t, e, ht⟩ := h2 y hy
      exact ⟨t, e, s2 _ _ ht⟩
    · have r3 := repT3' (K := K) (G := G2) (B := B1) (vs := zs) fun y hy => h2 y (hz.mem_iff.mp hy)
      refine q2 _ _ _ _ _ (hk (zs.map (getT3 G2)) (by rw [h1]; exact hz.map _) (List.pairwise_map.mpr hs)) (Ext.new s2 hp) ⟨p, _, rfl, upd_same, r3.mono (Ext.new (B := B1) s2 hp).le⟩) e1 r1

/-! ### a list handed over -/
abbrev PrO := List D → Int → (List D → Int → Prop) → EW → Prop
/-- an owned list comes back -/
def ROk (K : PySem.W.Frag) (ko : List D → Int → Prop) (Q : VK) (G0 H0 : Hp) (B0 : Int) : Prop := ∀ es us p B' G' H', ko es B' → Ext G0 H0 B0 G' H' B' → NoH0 G0 H0 p → G' p = none → H' p = some (.lst us) → RepL K G' B' es us → Q (.ref p) H'
def spO (K : PySem.W.Frag) (pr : PrO) : Sp := fun vs H Q E => ∃ G ds B ko e, Sub G H ∧ RepL K G B ds vs ∧ pr ds B ko e ∧ ROk K ko Q G H B ∧ XOk K E e G H B
theorem spO_len {pr : PrO} {n : Nat} (h : ∀ ds B k e, pr ds B k e → ds.length = n) : ∀ vs H Q E, spO K pr vs H Q E → vs.length = n := fun vs H Q E ⟨G, ds, B, k, e, _, r, p, _⟩ => by
  rw [← r.length]
  exact h _ _ _ _ p
def WOr (K : PySem.W.Frag) (E : XK) (e : EW) (t : TS) (ρ : List (Option D)) (B : Int) (O : List (Addr × OC)) (ko : List D → Int → Prop) : Prop :=
  ∀ σ H G Dn G0 H0 B0, EnvR K G B ρ σ → Owns K G0 H0 G H B O → Ext G0 H0 B0 G H B → XOk K E e G0 H0 B0 → ROk K ko Dn.rt G0 H0 B0 → t Dn σ H
theorem wr_seq {ko : List D → Int → Prop} (h : WOw K E e s ρ B O { nx := fun ρ' O' B' => WOr K E e us ρ' B' O' ko, rt := fun _ _ => False }) : WOr K E e (tSeq s us) ρ B O ko := fun σ H G Dn G0 H0 B0 en ow ex x q =>
  h σ H G _ G0 H0 B0 en ow ex x ⟨fun ρ' O' σ' B' G' H' h1 e1 en1 ow1 => h1 σ' H' G' Dn G0 H0 B0 en1 ow1 e1 x q, fun _ _ _ _ _ h => h.elim, fun _ _ _ _ _ _ h => h.elim, fun _ _ _ _ _ _ h => h.elim⟩
theorem wr_ret {ko : List D → Int → Prop} (hn : O[n]? = some (p, .list es)) (hi : ρ[i]? = some (some (.val (.ref p)))) (hk : ko es B) : WOr K E e (tRet (tVar i)) ρ B O ko := fun σ H G Dn G0 H0 B0 en ow ex x q => by
  obtain ⟨v0, hv0, e0⟩ := en.get hi
  rw [show v0 = _ from e0] at hv0
  obtain ⟨np, gp, vs, hL, hr⟩ := own_at ow hn
  exact ⟨.ref p, hv0, q es vs p B G H hk ex np gp hL hr⟩
theorem run_bodyO {N : List Str} {ts : TS} {G H : Hp} {ds : List D} {vs : List V} {Q : VK} {ko : List D → Int → Prop} (hs : Sub G H) (hr : RepL K G B ds vs) (hk : ROk K ko Q G H B) (hx : XOk K E e G H B) (hN : startD N ds = ρ) (h : WOr K E e ts ρ B [] ko) :
    ts { nx := fun _ H' => Q .non H', rt := Q } (L2.start N vs) H := by
  subst hN
  refine h _ H G _ G H B ?_ ⟨List.nodup_nil, fun x hx => nomatch hx⟩ (Ext.refl hs) hx hk
  unfold startD L2.start
  rw [hr.length]
  exact EnvR.of_vals _ hr
theorem ext_tellN {G0 H0 G H : Hp} {B0 B' : Int} {a : Addr} {u : HO} (ex : Ext G0 H0 B0 G H B') (np : NoH0 G0 H0 a) (gp : G a = none) (hu : H a = some u) : Ext G0 H0 B0 (upd G a u) H B' ∧ Le G B' (upd G a u) B' := by
  have le : Le G B' (upd G a u) B' := Le.of_sub (fun b o z => by rw [upd_ne (ne_of_none z gp)]; exact z) (Int.le_refl _)
  refine ⟨⟨ex.le.trans le, fun b o z => ?_, fun b o z n t => ?_⟩, le⟩
  · by_cases w : b = a
    · subst w; rw [upd_same] at z; cases z; exact hu
    · rw [upd_ne w] at z; exact ex.sub _ _ z
  · rw [upd_ne (fun w => by subst w; exact np o z n t)]; exact ex.fr _ _ z n t
theorem rok_kok {Q : VK} {G H : Hp} (q : KOk K k Q G H B) : ROk K (fun es B' => k (.lst es) B') Q G H B := fun es us p B' G' H' hk ex np gp hL hr => by
  obtain ⟨ex2, le⟩ := ext_tellN ex np gp hL
  exact q _ _ _ _ _ hk ex2 ⟨p, us, rfl, upd_same, hr.mono le⟩
theorem we_callO {pr : PrO} (h : Wa K E e t ρ B fun ds B1 => pr ds B1 (fun es B2 => k (.lst es) B2) noE) : We K E e (tCall (spO K pr) [] E' t) ρ B k := fun σ H G Q s en x q =>
  h σ H G _ s en x fun ds vs B1 G1 H1 h1 e1 r1 => by
    show spO K pr (vs ++ []) H1 Q E'
    rw [List.append_nil]
    exact ⟨G1, ds, B1, _, noE, e1.sub, r1, h1, rok_kok (q.ext e1), XOk.no⟩
theorem we_callOE {pr : PrO} (h : Wa K E e t ρ B fun ds B1 => pr ds B1 (fun es B2 => k (.lst es) B2) e) : We K E e (tCall (spO K pr) [] E t) ρ B k := fun σ H G Q s en x q =>
  h σ H G _ s en x fun ds vs B1 G1 H1 h1 e1 r1 => by
    show spO K pr (vs ++ []) H1 Q E
    rw [List.append_nil]
    exact ⟨G1, ds, B1, _, e, e1.sub, r1, h1, rok_kok (q.ext e1), x.ext e1⟩
theorem noH0_ext {G0 H0 G H : Hp} {B0 : Int} {a : Addr} (ex : Ext G0 H0 B0 G H B) (np : NoH0 G H a) : NoH0 G0 H0 a := fun o h n t => by
  obtain ⟨z1, z2⟩ := ex.fr a o h n t
  exact np o z1 z2 t
theorem own_nt {G H : Hp} {a : Addr} {o : OC} (h : Own1 K G H B a o) : ∃ v, H a = some v ∧ NTb v := by
  cases o with
  | dict l => exact ⟨_, h, (fun _ z => nomatch z), fun _ z => nomatch z⟩
  | list es => obtain ⟨vs, h, _⟩ := h; exact ⟨_, h, (fun _ z => nomatch z), fun _ z => nomatch z⟩
  | dictD l => obtain ⟨vs, h, _⟩ := h; exact ⟨_, h, (fun _ z => nomatch z), fun _ z => nomatch z⟩
  | lckD od l vs => exact ⟨_, h.1, (fun _ z => nomatch z), fun _ z => nomatch z⟩
theorem own_mv {G H G' H' : Hp} {B' : Int} {a : Addr} {o : OC} (h : Own1 K G H B a o) (e : H' a = H a) (le : Le G B G' B') : Own1 K G' H' B' a o := by
  cases o with
  | dict l => exact e.trans h
  | list es => obtain ⟨vs, h, h2⟩ := h; exact ⟨vs, e.trans h, h2.mono le⟩
  | dictD l => obtain ⟨vs, h, h2⟩ := h; exact ⟨vs, e.trans h, h2.mono le⟩
  | lckD od l vs => exact ⟨e.trans h.1, h.2.mono le⟩
/-- x = f(..), f hands a list over -/
theorem wx_callO {pr : PrO} (h : Wa K E e t ρ B fun ds B1 => pr ds B1 (fun es B2 => ∀ p, κx.nx (ρ.set i (some (.val (.ref p)))) ((p, .list es) :: O) B2) noE) : WOw K E e (tAsg (tCall (spO K pr) [] E' t) (gName i)) ρ B O κx := fun σ H G Dn G0 H0 B0 en ow ex x q =>
  h σ H G _ ex.sub en (x.ext ex) fun ds vs B1 G1 H1 h1 e1 r1 => by
    show spO K pr (vs ++ []) H1 _ E'
    rw [List.append_nil]
    refine ⟨G1, ds, B1, _, noE, e1.sub, r1, h1, fun es us p B' G' H' hk e2 np gp hL hr => ?_, XOk.no⟩
    have e12 := e1.trans e2
    have ow1 := ow.ext e1
    have ow2 := ow.ext e12
    refine q.nx _ _ _ _ _ _ (hk p) (ex.trans e12) (EnvR.set (d := .val (.ref p)) (v := .ref p) rfl i (en.mono e12.le)) ⟨List.nodup_cons.mpr ⟨fun hm => ?_, ow2.nd⟩, fun y hy => ?_⟩
    · obtain ⟨c, hc, ec⟩ := List.mem_map.mp hm
      obtain ⟨_, g1, o1⟩ := ow1.at_ c hc
      obtain ⟨o, ho, ht⟩ := own_nt o1
      rw [ec] at g1 ho
      exact np o ho g1 ht
    · rcases List.mem_cons.mp hy with rfl | hy
      · exact ⟨noH0_ext (ex.trans e1) np, gp, us, hL, hr⟩
      · exact ow2.at_ y hy
theorem wx_for_range2 (h : Wa K E e t ρ B fun as B1 => ∃ lo hi : Int, as = [.int lo, .int hi] ∧ (-(2 ^ 62) ≤ lo ∧ lo < 2 ^ 62 ∧ -(2 ^ 62) ≤ hi ∧ hi < 2 ^ 62) ∧ ∃ I : IX, I 0 ρ O B1 ∧ (∀ n ρ' O' B', n < (hi - lo).toNat → I n ρ' O' B' → Wg K g (.int (lo + n)) ρ' B' fun ρ2 B2 => WOw K E e tbody ρ2 B2 O' { nx := I (n + 1), rt := κx.rt, bk := κx.nx, ct := I (n + 1) }) ∧ ∀ ρ' O' B', I (hi - lo).toNat ρ' O' B' → κx.nx ρ' O' B') :
    WOw K E e (tFor (iRng2 t) g tbody) ρ B O κx := fun σ H G Dn G0 H0 B0 en ow ex x q =>
  h σ H G _ ex.sub en (x.ext ex) fun as vs B1 G1 H1 ⟨lo, hi, ed, hb, I, i0, hs, hd⟩ e1 r1 => by
    subst ed
    obtain ⟨v, _, rfl, rv, u, _, rfl, ru, rfl⟩ := r1
    rw [show v = _ from rv, show u = _ from ru]
    refine ⟨lo, hi, rfl, hb, for_it walk_range (PX K I G0 H0 B0) ⟨ρ, O, B1, G1, i0, ex.trans e1, en.mono e1.le, ow.ext e1⟩ (fun _ _ _ _ _ => trivial) ?_ ?_⟩
    · rintro n y σ' H' H'' hn ⟨ρ', O', B', G', hI, e0, en2, ow2⟩ ⟨eH, ey⟩
      subst eH ey
      exact px_step (d := .int (lo + n)) hI e0 en2 ow2 rfl x q (hs n ρ' O' B' hn hI)
    · rintro σ' H' ⟨ρ', O', B', G', hI, e0, en2, ow2⟩
      exact q.nx _ _ _ _ _ _ (hd _ _ _ hI) e0 en2 ow2
/-- l.extend(x) -/
theorem wx_extend (hn : O[n]? = some (p, .list es)) (hi : ρ[i]? = some (some (.val (.ref p)))) (h : We K E e ta ρ B fun d B1 => ∃ ds, d = .lst ds ∧ es.length + ds.length ≤ sizeLine ∧ κx.nx ρ (O.set n (p, .list (es ++ ds))) B1) : WOw K E e (tDrop (tBM K "list" rExtend (tVar i) (tCons ta tNil))) ρ B O κx := fun σ H G Dn G0 H0 B0 en ow ex x q => by
  obtain ⟨v0, hv0, e0⟩ := en.get hi
  rw [show v0 = _ from e0] at hv0
  obtain ⟨np, gp, vs, hL, hr⟩ := own_at ow hn
  refine ⟨.ref p, hv0, .inl ⟨rfl, vs, SqL.of hL⟩, h σ H G _ ex.sub en (x.ext ex) fun d v B1 G1 H1 ⟨ds, ed, hl, hk⟩ e1 r1 => ?_⟩
  subst ed
  obtain ⟨b, us, rfl, hb, hbr⟩ := r1
  obtain ⟨z1, z2⟩ := e1.fr p _ hL gp ⟨(fun _ z => nomatch z), fun _ z => nomatch z⟩
  refine ⟨p, b, vs, us, rfl, rfl, z1, e1.sub _ _ hb, by rw [← hr.length, ← hbr.length]; exact hl, ?_⟩
  exact q.nx _ _ σ B1 G1 _ hk ((ex.trans e1).chgN np z2) (en.mono e1.le) (owns_set (ow.ext e1) hn ⟨_, upd_same, (hr.mono e1.le).append hbr⟩)
/-- a test that looks at a list owned -/
theorem wx_if_peek {c : TT} (hn : O[n]? = some (p, .list es)) (hi : ρ[i]? = some (some (.val (.ref p)))) (h : Wt K E e c (ρ.set i (some (.lst es))) B fun b B1 => (b = true → WOw K E e ts ρ B1 O κx) ∧ (b = false → WOw K E e us ρ B1 O κx)) : WOw K E e (tIfS c ts us) ρ B O κx := fun σ H G Dn G0 H0 B0 en ow ex x q => by
  obtain ⟨v0, hv0, e0⟩ := en.get hi
  rw [show v0 = _ from e0] at hv0
  obtain ⟨np, gp, vs, hL, hr⟩ := own_at ow hn
  obtain ⟨ex2, le2⟩ := ext_tellN ex np gp hL
  have en2 := EnvR.set (d := .lst es) (v := .ref p) ⟨p, vs, rfl, upd_same, hr.mono le2⟩ i (en.mono le2)
  rw [set_id hv0] at en2
  refine h σ H _ _ ex2.sub en2 (x.ext ex2) fun b B1 G1 H1 ⟨h1, h2⟩ e1 => ?_
  have e01 := ex2.trans e1
  have hp1 : G1 p = some (.lst vs) := e1.le.keep p _ upd_same nopen_lst
  have leG : Le G B (fun a => if a = p then none else G1 a) B1 := by
    refine ⟨e1.le.b, fun a o ha hpn => ?_, fun a k l c s r ha => ?_, fun z => ?_⟩
    · have ne : a ≠ p := ne_of_none ha gp
      show (if a = p then none else G1 a) = _
      rw [if_neg ne]
      exact e1.le.keep a o (by rw [upd_ne ne]; exact ha) hpn
    · have ne : a ≠ p := ne_of_none ha gp
      obtain ⟨s', r', k1, k2⟩ := e1.le.pen a k l c s r (by rw [upd_ne ne]; exact ha)
      refine ⟨s', r', ?_, k2⟩
      show (if a = p then none else G1 a) = _
      rw [if_neg ne]
      exact k1
    · have z1 : Tabs Tbs.T G1 := e1.le.tb (z.ext fun b o hb => by rw [upd_ne (ne_of_none hb gp)]; exact hb)
      intro P hP
      obtain ⟨ps, t1, t2, t3⟩ := z1 P hP
      have ne : P.1 ≠ p := fun w => by rw [w, hp1] at t1; cases t1
      refine ⟨ps, ?_, t2, fun pos cv hc => ?_⟩
      · show (if P.1 = p then none else G1 P.1) = _
        rw [if_neg ne]; exact t1
      · obtain ⟨c, c1, c2⟩ := t3 pos cv hc
        have nc : c ≠ p := fun w => by rw [w, hp1] at c2; cases c2
        refine ⟨c, c1, ?_⟩
        show (if c = p then none else G1 c) = _
        rw [if_neg nc]; exact c2
  have exG : Ext G0 H0 B0 (fun a => if a = p then none else G1 a) H1 B1 := by
    refine ⟨ex.le.trans leG, fun a o ha => ?_, fun a o ha na nt => ?_⟩
    · have ha : (if a = p then none else G1 a) = some o := ha
      split at ha
      · cases ha
      · exact e1.sub _ _ ha
    · obtain ⟨z1, z2⟩ := e01.fr a o ha na nt
      refine ⟨z1, ?_⟩
      show (if a = p then none else G1 a) = none
      rw [z2]
      split <;> rfl
  have owG : Owns K G0 H0 (fun a => if a = p then none else G1 a) H1 B1 O := by
    refine ⟨ow.nd, fun y hy => ?_⟩
    obtain ⟨y1, y2, y3⟩ := ow.at_ y hy
    by_cases w : y.1 = p
    · refine ⟨y1, ?_, own_mv y3 ?_ leG⟩
      · show (if y.1 = p then none else G1 y.1) = none
        rw [if_pos w]
      · rw [w, hL]; exact e1.sub _ _ hp1
    · obtain ⟨o, ho, nt⟩ := own_nt y3
      obtain ⟨z1, z2⟩ := e1.fr y.1 o ho (by rw [upd_ne w]; exact y2) nt
      refine ⟨y1, ?_, own_mv y3 (z1.trans ho.symm) leG⟩
      show (if y.1 = p then none else G1 y.1) = none
      rw [if_neg w]; exact z2
  cases b with
  | true => rw [if_pos rfl]; exact h1 rfl σ H1 _ Dn G0 H0 B0 (en.mono leG) owG exG x q
  | false => rw [if_neg Bool.false_ne_true]; exact h2 rfl σ H1 _ Dn G0 H0 B0 (en.mono leG) owG exG x q
theorem repKts {G H : Hp} {B : Int} (sb : ∀ b o, G b = some o → H b = some o) : ∀ {cs : List (List Key)} {bs : List Addr}, bs.length = cs.length → (∀ (j : Nat) (c : List Key), cs[j]? = some c → ∃ b, bs[j]? = some b ∧ G b = some (.tup (c.map kV))) → RepL K H B (cs.map D.kt) (bs.map V.ref)
  | [], [], _, _ => rfl
  | c :: cs, b :: bs, hl, h => by
    obtain ⟨b', e, hb⟩ := h 0 c rfl
    have e : b = b' := Option.some.inj e
    subst e
    exact ⟨_, _, rfl, ⟨b, rfl, sb _ _ hb⟩, repKts sb (by simpa using hl) fun j c hj => h (j + 1) c (by rw [List.getElem?_cons_succ]; exact hj)⟩
def GT (G H : Hp) (bs : List Addr) : Hp := fun a => if a ∈ bs then H a else G a
/-- tuples that stand there are known from now on -/
theorem ext_tups {G H : Hp} (sb : Sub G H) (bs : List Addr) (h : ∀ b ∈ bs, ∃ vs, H b = some (.tup vs)) : Ext G H B (GT G H bs) H B := by
  refine ⟨Le.of_sub (fun a o z => ?_) (Int.le_refl _), fun a o z => ?_, fun a o z n t => ⟨z, ?_⟩⟩
  · show (if a ∈ bs then H a else G a) = _
    split
    · exact sb _ _ z
    · exact z
  · have z : (if a ∈ bs then H a else G a) = some o := z
    split at z
    · exact z
    · exact sb _ _ z
  · show (if a ∈ bs then H a else G a) = none
    by_cases w : a ∈ bs
    · obtain ⟨vs, hb⟩ := h a w
      rw [hb] at z
      cases z
      exact absurd rfl (t.2 vs)
    · rw [if_neg w]; exact n
theorem zip_keys {cs : List (List Key)} {vs : List V} (h : cs.length = vs.length) {j : Nat} {c : List Key} (hc : cs[j]? = some c) : ∃ v, (cs.zip vs)[j]? = some (c, v) := by
  have hj := (List.getElem?_eq_some_iff.mp hc).1
  refine ⟨vs[j]'(by omega), ?_⟩
  rw [List.getElem?_zip_eq_some]
  exact ⟨hc, List.getElem?_eq_getElem (by omega)⟩
theorem we_listDT (h : Wa K E e t ρ B fun as B1 => ∃ kss ds, as = [.dt false kss ds] ∧ k (.lst (kss.map D.kt)) B1) : We K E e (tCB rListDT t) ρ B k :=
  we_cb fun σ H G Q s en x q => h σ H G Q s en x fun as vs B1 G1 H1 ⟨kss, ds, ed, hk⟩ e1 r1 => q as vs B1 G1 H1 (fun ws H2 G2 Q2 s2 r2 q2 => by
    subst ed
    obtain ⟨v, _, rfl, ⟨a, us, rfl, ha, hn, hr⟩, rfl⟩ := r2
    have ha : G2 a = some (.dT (kss.zip us)) := ha.elim id fun z => nomatch z.1
    refine ⟨a, _, rfl, s2 _ _ ha, fun bs p hl hb hp => ?_⟩
    have lz : (kss.zip us).length = kss.length := by rw [List.length_zip, hn]; simp
    have hb2 : ∀ (j : Nat) (c : List Key), kss[j]? = some c → ∃ b, bs[j]? = some b ∧ H2 b = some (.tup (c.map kV)) := fun j c hc => by
      obtain ⟨v, hz⟩ := zip_keys hn hc
      exact hb j _ hz
    have hl2 : bs.length = kss.length := hl.trans lz
    have hm : ∀ b ∈ bs, ∃ vs, H2 b = some (.tup vs) := fun b hbm => by
      obtain ⟨j, hj⟩ := List.mem_iff_getElem?.mp hbm
      have hjl := (List.getElem?_eq_some_iff.mp hj).1
      obtain ⟨b', e1, e2⟩ := hb2 j _ (List.getElem?_eq_getElem (show j < kss.length by omega))
      rw [hj] at e1
      cases e1
      exact ⟨_, e2⟩
    have eT := ext_tups (B := B1) s2 bs hm
    have eN := Ext.new (B := B1) (o := .lst (bs.map V.ref)) eT.sub hp
    refine q2 _ _ _ _ _ hk (eT.trans eN) ⟨p, bs.map V.ref, rfl, upd_same, RepL.mono eN.le ?_⟩
    refine repKts (G := GT G2 H2 bs) (fun _ _ z => z) hl2 fun j c hc => ?_
    obtain ⟨b, e1, e2⟩ := hb2 j c hc
    refine ⟨b, e1, ?_⟩
    show (if b ∈ bs then H2 b else G2 b) = _
    rw [if_pos (List.mem_of_getElem? e1)]
    exact e2) e1 r1
def PXd (K : PySem.W.Frag) (I : Nat → KE') (G0 H0 : Hp) (B0 : Int) (n : Nat) (σ : L2.St) (H : Hp) : Prop := ∃ ρ' B' G', I n ρ' B' ∧ Ext G0 H0 B0 G' H B' ∧ EnvR K G' B' ρ' σ
/-- for k in d, d told: locked meanwhile -/
theorem ws_for_dt {kss : List (List Key)} {ds : List D} (hi : ρ[i]? = some (some (.dt false kss ds))) (hno : ∀ u, lkOkE false (ρ.set i (some (.at_ u (.dt true kss ds)))) = true)
    (h : ∀ u : V, ∃ I : Nat → KE', I 0 (ρ.set i (some (.at_ u (.dt true kss ds)))) B ∧ (∀ n ρ' B', I n ρ' B' → ρ'[i]? = some (some (.at_ u (.dt true kss ds)))) ∧ (∀ n c ρ' B', kss[n]? = some c → I n ρ' B' → Wg K g (.kt c) ρ' B' fun ρ2 B2 => Ws K E noE tbody ρ2 B2 { nx := I (n + 1), rt := fun _ _ => False, bk := fun _ _ => False, ct := I (n + 1) }) ∧ ∀ ρ' B', I kss.length ρ' B' → lkOkE true ρ' = true ∧ κ.nx (ρ'.set i (some (.dt false kss ds))) B') :
    Ws K E e (tLock (tFor (iKeys (tVar i)) g tbody)) ρ B κ := fun σ H G Dn s en x q => by
  obtain ⟨v0, hv0, a, vs, rfl, ha, hn, hr⟩ := en.get hi
  have ha : G a = some (.dT (kss.zip vs)) := ha.elim id fun z => nomatch z.1
  have lz : (kss.zip vs).length = kss.length := by rw [List.length_zip, hn]; simp
  refine ⟨a, _, s _ _ ha, trivial, fun od => ?_⟩
  obtain ⟨I, i0, hI, hs, hd⟩ := h (.ref a)
  have lw := lw_lock (B := B) (od := od) ha
  have sub1 := sub_lock (a := a) (o := .frz od (.dT (kss.zip vs))) s
  have en0 : EnvR K G B (ρ.set i (some (.at_ (.ref a) (.dt true kss ds)))) σ := by
    have e1 : EnvR K G B (ρ.set i (some (.at_ (.ref a) (.dt true kss ds)))) (σ.set i (some (.ref a))) := EnvR.set (d := .at_ (.ref a) (.dt true kss ds)) (v := .ref a) ⟨rfl, a, vs, rfl, .inl ha, hn, hr⟩ i en
    rwa [set_id hv0] at e1
  have en1 : EnvR K (upd G a (.frz od (.dT (kss.zip vs)))) B (ρ.set i (some (.at_ (.ref a) (.dt true kss ds)))) σ := EnvR.weak lw (hno _) en0
  refine ⟨.ref a, hv0, a, od, rfl, .inr ⟨_, upd_same, ?_⟩⟩
  have frz : ∀ {G' H' : Hp} {B' : Int}, Ext (upd G a (.frz od (.dT (kss.zip vs)))) (upd H a (.frz od (.dT (kss.zip vs)))) B G' H' B' → H' a = some (.frz od (.dT (kss.zip vs))) := fun e1 => e1.sub _ _ (e1.le.keep a _ upd_same nopen_frz)
  refine for_it walk_keysT (PXd K I (upd G a (.frz od (.dT (kss.zip vs)))) (upd H a (.frz od (.dT (kss.zip vs)))) B) ⟨_, B, _, i0, Ext.refl sub1, en1⟩ (fun m σ' H' _ ⟨ρ', B', G', hI', e1, en'⟩ => frz e1) ?_ ?_
  · rintro m y σ' H' H'' hm ⟨ρ', B', G', hI', e1, en'⟩ ⟨eH, c, v, b, hc, ey, hb⟩
    subst eH ey
    have hx : kss[m]? = some c := by
      rw [List.getElem?_zip_eq_some] at hc
      exact hc.1
    have eL := Ext.learn (B := B') e1.sub hb
    refine hs m c ρ' B' hx hI' (.ref b) σ' H'' _ _ eL.sub (en'.mono eL.le) (show Rep K _ B' (.kt c) (.ref b) from ⟨b, rfl, upd_same⟩) fun ρ2 σ2 B2 G2 H2 h2 e3 en3 => ?_
    refine h2 σ2 H2 G2 _ e3.sub en3 XOk.no ⟨fun ρ3 σ3 B3 G3 H3 h3 e4 en4 => ⟨ρ3, B3, G3, h3, e1.trans (eL.trans (e3.trans e4)), en4⟩, fun _ _ _ _ _ z => z.elim, fun _ _ _ _ _ z => z.elim, fun ρ3 σ3 B3 G3 H3 h3 e4 en4 => ⟨ρ3, B3, G3, h3, e1.trans (eL.trans (e3.trans e4)), en4⟩⟩
  · rintro σ' H' ⟨ρ', B', G', hI', e1, en'⟩
    rw [lz] at hI'
    obtain ⟨g1, h1, exu⟩ := ext_unlock s ha e1
    obtain ⟨hl, hk⟩ := hd _ _ hI'
    obtain ⟨v1, hv1, ev, _⟩ := en'.get (hI _ _ _ hI')
    subst ev
    have en2 := EnvR.set (d := .dt false kss ds) (v := .ref a) ⟨a, vs, rfl, .inl upd_same, hn, hr.mono exu.le⟩ i (EnvR.weak (lw_unlock (B := B') g1) hl en')
    rw [set_id hv1] at en2
    exact ⟨h1, q.nx _ _ _ _ _ hk exu en2⟩
/-- what is known of some names is forgotten -/
def fgt : List (Option D) → List Bool → List (Option D)
  | [], _ => []
  | ρ, [] => ρ
  | _ :: ρ, true :: bs => none :: fgt ρ bs
  | o :: ρ, false :: bs => o :: fgt ρ bs
theorem EnvR.fgt {G : Hp} {B : Int} : ∀ {ρ : List (Option D)} {bs : List Bool} {σ : L2.St}, EnvR K G B ρ σ → EnvR K G B (AW.fgt ρ bs) σ
  | [], bs, σ, h => by cases bs <;> exact h
  | _ :: _, [], _, h => h
  | _ :: _, true :: _, _, ⟨x, r, e, _, hr⟩ => ⟨x, r, e, fun d q => (nomatch q), EnvR.fgt hr⟩
  | _ :: _, false :: _, _, ⟨x, r, e, h, hr⟩ => ⟨x, r, e, h, EnvR.fgt hr⟩
theorem ws_fgt (bs : List Bool) (h : Ws K E e s (fgt ρ bs) B κ) : Ws K E e s ρ B κ := fun σ H G Dn sb en x q => h σ H G Dn sb en.fgt x q
theorem we_varA {u : V} {d : D} (h : ρ[i]? = some (some (.at_ u d))) (hk : k d B) : We K E e (tVar i) ρ B k := We.at (d := d) (fun σ H G s en => by
  obtain ⟨v, hv, e, r⟩ := en.get h
  exact ⟨v, r, fun Q q => ⟨_, hv, q⟩⟩) hk
end
end AW

set_option linter.all false
set_option maxRecDepth 100000
set_option maxHeartbeats 4000000
/-! properties read, divmod, starred items of a list display -/
namespace AW
open PySem PySem.Spec PyProof.Rows L2 RZ LamX
variable [Tbs]
section
variable {K : PySem.W.Frag} {E E' : XK} {e : EW} {ρ : List (Option D)} {B : Int} {k : KD} {κ : KS} {ta tb tc : TE} {t : TA} {pr : Pr} {C : Addr} {kl : KL}
theorem we_prop (h : We K E e ta ρ B fun d B1 => ∃ ns fs, d = .ins C ns fs ∧ pr [d] B1 k noE) : We K E e (tProp C (spD K pr) [] E' ta) ρ B k := fun σ H G Q s en x q =>
  h σ H G _ s en x fun d v B1 G1 H1 ⟨ns, fs, ed, h1⟩ e1 r1 => by
    subst ed
    obtain ⟨a, dx, vs, rfl, ha, hl, hr⟩ := id r1
    exact ⟨a, dx, _, rfl, e1.sub _ _ ha, G1, [.ins C ns fs], B1, k, noE, e1.sub, ⟨_, _, rfl, r1, rfl⟩, h1, q.ext e1, XOk.no⟩
theorem wa_star (h : We K E e ta ρ B fun d B1 => ∃ ds, (d = .lst ds ∨ d = .tup ds) ∧ Wa K E e t ρ B1 fun es B2 => kl (ds ++ es) B2) : Wa K E e (StX.tStar K ta t) ρ B kl := fun σ H G Q s en x q =>
  h σ H G _ s en x fun d v B1 G1 H1 ⟨ds, ed, h1⟩ e1 r1 => by
    have : ∃ p us, v = .ref p ∧ (SqT K H1 p us ∨ SqL K H1 p us) ∧ RepL K G1 B1 ds us := by
      rcases ed with rfl | rfl
      · obtain ⟨p, us, rfl, hp, hr⟩ := r1
        exact ⟨p, us, rfl, .inr (SqL.of (e1.sub _ _ hp)), hr⟩
      · obtain ⟨p, us, rfl, hp, hr⟩ := r1
        exact ⟨p, us, rfl, .inl (hp.elim (fun z => .inl (z.elim (fun y => .inl (e1.sub _ _ y)) fun ⟨o, y⟩ => .inr ⟨o, e1.sub _ _ y⟩)) .inr), hr⟩
    obtain ⟨p, us, rfl, hp, hr⟩ := this
    exact ⟨p, us, rfl, hp, h1 σ H1 G1 _ e1.sub (en.mono e1.le) (x.ext e1) fun es ws B2 G2 H2 h2 e2 r2 => q _ _ _ _ _ h2 (e1.trans e2) ((hr.mono e2.le).append r2)⟩
end
def rDivmod : List V → Hp → VK → Prop := fun xs H Q => ∃ i j, xs = [.int i, .int j] ∧ CDivG i j ∧ ∀ p, H p = none → Q (.ref p) (upd H p (.tup [.int (i.fdiv j), .int (i.fmod j)]))
theorem call_divmodG {X : Cx} : CallR X (.builtin "divmod") rDivmod := by
  intro pins s σ H xs us Q I r h
  obtain ⟨i, j, rfl, ⟨h1, h2⟩, q⟩ := h
  obtain ⟨u, w', rfl, ⟨t, rfl⟩, ⟨t', rfl⟩⟩ := vals2 r
  refine divmod_int h1 ?_ (.inl (PyProof.noPylong_of_log2 h2))
  have hn : H s.heap.objs.size = none := I.hok.fresh (Nat.le_refl _)
  refine ⟨.ref s.heap.objs.size, _, ?_, rfl, q _ hn⟩
  refine I.laid (fun b o e => Heap.get?_push_of_some _ e) (Nat.le_refl _) ⟨by simp only [List.length_cons, List.length_nil]; rw [sizeLine_eq]; decide, [.int (i.fdiv j) s.toks, .int (i.fmod j) (s.toks + 1)], .cons ⟨_, rfl⟩ (.cons ⟨_, rfl⟩ .nil), ?_⟩
  exact ⟨_, Heap.get?_push_size s.heap rfl, rfl, 0, rfl⟩
theorem we_divmod {K : PySem.W.Frag} {E : XK} {e : EW} {ρ : List (Option D)} {B : Int} {k : KD} {t : TA} (h : Wa K E e t ρ B fun ds B1 => ∃ i j : Int, ds = [.int i, .int j] ∧ CDivG i j ∧ k (.tup [.int (i.fdiv j), .int (i.fmod j)]) B1) : We K E e (tCB rDivmod t) ρ B k :=
  we_cb fun σ H G Q s en x q => h σ H G Q s en x fun ds vs B1 G1 H1 ⟨i, j, ed, c, hk⟩ e1 r1 => q ds vs B1 G1 H1 (fun ws H2 G2 Q2 s2 r2 q2 => by
    subst ed
    obtain ⟨v, _, rfl, rv, u, _, rfl, ru, rfl⟩ := r2
    rw [show v = _ from rv, show u = _ from ru]
    exact ⟨i, j, rfl, c, fun p hp => q2 _ _ _ _ _ hk (Ext.new s2 hp) ⟨p, _, rfl, SqT.of upd_same, _, _, rfl, rfl, _, _, rfl, rfl, rfl⟩⟩) e1 r1
theorem sqt_up {K : PySem.W.Frag} {G H : Hp} {a : Addr} {xs : List V} (s : Sub G H) (h : SqT K G a xs) : SqT K H a xs := h.elim (fun z => .inl (z.elim (fun y => .inl (s _ _ y)) fun ⟨o, y⟩ => .inr ⟨o, s _ _ y⟩)) .inr
section
variable {K : PySem.W.Frag} {E E' : XK} {e : EW} {ρ : List (Option D)} {B : Int} {κx : KX} {tbody : TS} {g : TG} {i j n : Nat} {ds : List D} {O : List (Addr × OC)}
/-- for x in t, t a variable's tuple -/
theorem wx_for_tup (hj : ρ[j]? = some (some (.tup ds))) (h : ∀ u : V, ∃ I : IX, I 0 (ρ.set j (some (.at_ u (.tup ds)))) O B ∧ (∀ n ρ' O' B', I n ρ' O' B' → ρ'[j]? = some (some (.at_ u (.tup ds)))) ∧ (∀ n d ρ' O' B', ds[n]? = some d → I n ρ' O' B' → Wg K g d ρ' B' fun ρ2 B2 => WOw K E e tbody ρ2 B2 O' { nx := I (n + 1), rt := κx.rt, bk := κx.nx, ct := I (n + 1) }) ∧ ∀ ρ' O' B', I ds.length ρ' O' B' → κx.nx ρ' O' B') :
    WOw K E e (tFor (iTup K (tVar j)) g tbody) ρ B O κx := fun σ H G Dn G0 H0 B0 en ow ex x q => by
  obtain ⟨v0, hv0, a, vs, rfl, ha, hr⟩ := en.get hj
  obtain ⟨I, i0, hI, hs, hd⟩ := h (.ref a)
  have en0 := EnvR.set (d := .at_ (.ref a) (.tup ds)) (v := .ref a) ⟨rfl, a, vs, rfl, ha, hr⟩ j en
  rw [set_id hv0] at en0
  have ha2 : SqT K H a vs := sqt_up ex.sub ha
  refine ⟨.ref a, hv0, a, rfl, ⟨vs, ha2⟩, ?_⟩
  refine ⟨fun i m σ H => m = ds.length - i ∧ i ≤ ds.length ∧ PX K I G0 H0 B0 i σ H, ⟨ds.length, by simp, Nat.zero_le _, ρ.set j (some (.at_ (.ref a) (.tup ds))), O, B, G, i0, ex, en0, ow⟩, ?_⟩
  rintro i m σ' H' ⟨rfl, hi, ρ', O', B', G', hI', e0, en2, ow2⟩
  obtain ⟨v1, hv1, rv1⟩ := en2.get (hI i ρ' O' B' hI')
  obtain ⟨ev, a', vs', ea, ha', hr'⟩ := rv1
  rw [ev] at ea
  cases ea
  have hq : SqT K H' a vs' := sqt_up e0.sub ha'
  have hlen := hr'.length
  by_cases hlt : i < ds.length
  · refine .inr ⟨⟨vs', vs'[i], hq, by simp [show i < vs'.length by omega]⟩, PX K I G0 H0 B0 (i + 1), fun σ2 H2 p' => ⟨ds.length - (i + 1), by omega, rfl, hlt, p'⟩, fun y H'' hy => ?_⟩
    obtain ⟨eH, hy⟩ := hy
    subst eH
    obtain ⟨d, hdx, rx⟩ := hr'.get' (hy vs' hq)
    exact px_step hI' e0 en2 ow2 rx x q (hs i d ρ' O' B' hdx hI')
  · have e1 : i = ds.length := by omega
    subst e1
    exact .inl ⟨⟨vs', hq, by omega⟩, q.nx _ _ _ _ _ _ (hd _ _ _ hI') e0 en2 ow2⟩
/-- x = [e, ..], owned -/
theorem wx_newlistA {t : TA} (h : Wa K E e t ρ B fun ds B1 => ds.length ≤ sizeLine ∧ ∀ p, κx.nx (ρ.set i (some (.val (.ref p)))) ((p, .list ds) :: O) B1) : WOw K E e (tAsg (tLst t) (gName i)) ρ B O κx := fun σ H G Dn G0 H0 B0 en ow ex x q =>
  h σ H G _ ex.sub en (x.ext ex) fun ds vs B1 G1 H1 ⟨hl, hk⟩ e1 r1 => ⟨by rw [← r1.length]; exact hl, fun p hp => q.nx _ _ _ B1 G1 _ (hk p) ((ex.trans e1).trans (Ext.hid e1.sub hp)) (EnvR.set (d := .val (.ref p)) (v := .ref p) rfl i (en.mono e1.le)) (owns_cons (ow.ext e1) (ex.trans e1) hp ⟨vs, upd_same, r1⟩)⟩
end
/-- the type that every value of a D has -/
def TyD (K : PySem.W.Frag) (d : D) (t : Value) : Prop := ∀ v G H B, Sub G H → Rep K G B d v → TyX K H v t
theorem tyD_tup {K : PySem.W.Frag} {xs : List D} : TyD K (.tup xs) (.type "tuple") := fun v G H B s r => by
  obtain ⟨a, us, rfl, ha, hr⟩ := r
  have hb := (Le.of_sub (B := B) (B' := B) s (Int.le_refl _)).seqT ha
  rcases hb with (hb | ⟨o, hb⟩) | ⟨o, its, n, hk, hc, _⟩
  · exact .base (.tup hb)
  · exact .fTuple hb
  · exact .kTuple hk hc
theorem tyD_lst {K : PySem.W.Frag} {xs : List D} : TyD K (.lst xs) (.type "list") := fun v G H B s r => by
  obtain ⟨a, us, rfl, ha, hr⟩ := r
  exact .base (.lst (s _ _ ha))
theorem tyD_str {K : PySem.W.Frag} {z : Str} : TyD K (.str z) (.type "str") := fun v G H B s r => by
  rw [show v = _ from r]
  exact .base (.str _)
section
variable {K : PySem.W.Frag} {E : XK} {e : EW} {ρ : List (Option D)} {B : Int} {k : KD} {ta : TE} {t : Value} {b : Bool} {c1 c2 c3 : String}
/-- isinstance(x, (c1, c2)) -/
theorem we_isiT2 (h : We K E e ta ρ B fun d B1 => TyD K d t ∧ PySem.W.kitAny K t [.type c1, .type c2] = some b ∧ k (.bl b) B1) : We K E e (tCB (rIsiT K) (tCons ta (tCons (tTup (tCons (tC (.ty c1)) (tCons (tC (.ty c2)) tNil))) tNil))) ρ B k := fun σ H G Q s en x q =>
  h σ H G _ s en x fun d v B1 G1 H1 ⟨ht, hb, hk⟩ e1 r1 => ⟨Nat.le_trans (show 2 ≤ 3 from by decide) (by decide : 3 ≤ sizeLine), fun p hp => by
    have e2 := e1.trans (Ext.hid (o := .tup [.ty c1, .ty c2]) e1.sub hp)
    exact ⟨v, p, _, t, _, b, rfl, upd_same, .cons (.ty c1) (.cons (.ty c2) .nil), ht v G1 _ B1 e2.sub r1, hb, q _ _ _ _ _ hk e2 rfl⟩⟩
/-- isinstance(x, (c1, c2, c3)) -/
theorem we_isiT3 (h : We K E e ta ρ B fun d B1 => TyD K d t ∧ PySem.W.kitAny K t [.type c1, .type c2, .type c3] = some b ∧ k (.bl b) B1) : We K E e (tCB (rIsiT K) (tCons ta (tCons (tTup (tCons (tC (.ty c1)) (tCons (tC (.ty c2)) (tCons (tC (.ty c3)) tNil)))) tNil))) ρ B k := fun σ H G Q s en x q =>
  h σ H G _ s en x fun d v B1 G1 H1 ⟨ht, hb, hk⟩ e1 r1 => ⟨(by decide : 3 ≤ sizeLine), fun p hp => by
    have e2 := e1.trans (Ext.hid (o := .tup [.ty c1, .ty c2, .ty c3]) e1.sub hp)
    exact ⟨v, p, _, t, _, b, rfl, upd_same, .cons (.ty c1) (.cons (.ty c2) (.cons (.ty c3) .nil)), ht v G1 _ B1 e2.sub r1, hb, q _ _ _ _ _ hk e2 rfl⟩⟩
/-- isinstance(x, c) -/
theorem we_isi1 (h : We K E e ta ρ B fun d B1 => TyD K d t ∧ PySem.W.kitOne K t (.type c1) = some b ∧ k (.bl b) B1) : We K E e (tCB (rIsi K) (tCons ta (tCons (tC (.ty c1)) tNil))) ρ B k := fun σ H G Q s en x q =>
  h σ H G _ s en x fun d v B1 G1 H1 ⟨ht, hb, hk⟩ e1 r1 => ⟨v, _, t, _, b, rfl, .ty c1, ht v G1 _ B1 e1.sub r1, hb, q _ _ _ _ _ hk e1 rfl⟩
/-- isinstance(x, C), C an own class -/
theorem we_isiC {C : Addr} (h : We K E e ta ρ B fun d B1 => TyD K d t ∧ PySem.W.kitOne K t (.ref C) = some b ∧ k (.bl b) B1) : We K E e (tCB (rIsi K) (tCons ta (tCons (tC (.ref C)) tNil))) ρ B k := fun σ H G Q s en x q =>
  h σ H G _ s en x fun d v B1 G1 H1 ⟨ht, hb, hk⟩ e1 r1 => ⟨v, _, t, _, b, rfl, .own C, ht v G1 _ B1 e1.sub r1, hb, q _ _ _ _ _ hk e1 rfl⟩
theorem we_lenStr {ta : TA} (h : Wa K E e ta ρ B fun ds B1 => ∃ z : Str, ds = [.str z] ∧ z.length ≤ sizeLine ∧ k (.int z.length) B1) : We K E e (tCB (fun xs H Q => ∃ z, xs = [.str z] ∧ z.length ≤ sizeLine ∧ Q (.int z.length) H) ta) ρ B k :=
  we_cb fun σ H G Q s en x q => h σ H G Q s en x fun ds vs B1 G1 H1 ⟨z, ed, hz, hk⟩ e1 r1 => q ds vs B1 G1 H1 (fun ws H2 G2 Q2 s2 r2 q2 => by
    subst ed
    obtain ⟨v, _, rfl, rv, rfl⟩ := r2
    rw [show v = _ from rv]
    exact ⟨z, rfl, hz, q2 _ _ _ _ _ hk (Ext.refl s2) rfl⟩) e1 r1
theorem we_sum {ta : TA} (h : Wa K E e ta ρ B fun ds B1 => ∃ ns : List Int, ds = [.lst (ns.map D.int)] ∧ k (.int ns.sum) B1) : We K E e (tCB (rSum K) ta) ρ B k :=
  we_cb fun σ H G Q s en x q => h σ H G Q s en x fun ds vs B1 G1 H1 ⟨ns, ed, hk⟩ e1 r1 => q ds vs B1 G1 H1 (fun ws H2 G2 Q2 s2 r2 q2 => by
    subst ed
    obtain ⟨v, _, rfl, ⟨a, us, rfl, ha, hr⟩, rfl⟩ := r2
    have ev : us = ns.map V.int := RepL.intsV ns hr
    subst ev
    exact ⟨a, ns, rfl, SqL.of (s2 _ _ ha), q2 _ _ _ _ _ hk (Ext.refl s2) rfl⟩) e1 r1
end
section
variable {K : PySem.W.Frag} {E E' : XK} {e : EW} {ρ : List (Option D)} {B : Int} {κx : KX} {tbody : TS} {g : TG} {i j n : Nat} {ds : List D} {O : List (Addr × OC)} {C : Addr} {f : Str}
/-- for x in s.f, s a name whose object has one field, a tuple -/
theorem wx_for_fld (hj : ρ[j]? = some (some (.ins C [f] [.tup ds]))) (cl : Cls K C) (na : NoAttr K C f) (h : ∀ a : V, ∃ I : IX, I 0 (ρ.set j (some (.ins C [f] [.at_ a (.tup ds)]))) O B ∧ (∀ n ρ' O' B', I n ρ' O' B' → ρ'[j]? = some (some (.ins C [f] [.at_ a (.tup ds)]))) ∧ (∀ n d ρ' O' B', ds[n]? = some d → I n ρ' O' B' → Wg K g d ρ' B' fun ρ2 B2 => WOw K E e tbody ρ2 B2 O' { nx := I (n + 1), rt := κx.rt, bk := κx.nx, ct := I (n + 1) }) ∧ ∀ ρ' O' B', I ds.length ρ' O' B' → κx.nx ρ' O' B') :
    WOw K E e (tFor (iTup K (tFld K (tVar j) f)) g tbody) ρ B O κx := fun σ H G Dn G0 H0 B0 en ow ex x q => by
  obtain ⟨v0, hv0, s, dx, us, rfl, hs0, hl, hr0⟩ := en.get hj
  obtain ⟨v, _, rfl, ⟨a, vs, rfl, ha, hr⟩, rfl⟩ := hr0
  obtain ⟨I, i0, hI, hs, hd⟩ := h (.ref a)
  have en0 := EnvR.set (d := .ins C [f] [.at_ (.ref a) (.tup ds)]) (v := .ref s) ⟨s, dx, [.ref a], rfl, hs0, rfl, _, _, rfl, ⟨rfl, a, vs, rfl, ha, hr⟩, rfl⟩ j en
  rw [set_id hv0] at en0
  have ha2 : SqT K H a vs := sqt_up ex.sub ha
  refine ⟨.ref s, hv0, s, C, dx, _, .ref a, rfl, ex.sub _ _ hs0, cl, na, by simp [List.lookup], a, rfl, ⟨vs, ha2⟩, ?_⟩
  refine ⟨fun i m σ H => m = ds.length - i ∧ i ≤ ds.length ∧ PX K I G0 H0 B0 i σ H, ⟨ds.length, by simp, Nat.zero_le _, _, O, B, G, i0, ex, en0, ow⟩, ?_⟩
  rintro i m σ' H' ⟨rfl, hi, ρ', O', B', G', hI', e0, en2, ow2⟩
  obtain ⟨v1, hv1, s', dx', us', rfl, hs1, hl1, hr1⟩ := en2.get (hI i ρ' O' B' hI')
  obtain ⟨v, _, rfl, ⟨ev, a', vs', ea, ha', hr'⟩, rfl⟩ := hr1
  rw [ev] at ea
  cases ea
  have hq : SqT K H' a vs' := sqt_up e0.sub ha'
  have hlen := hr'.length
  by_cases hlt : i < ds.length
  · refine .inr ⟨⟨vs', vs'[i], hq, by simp [show i < vs'.length by omega]⟩, PX K I G0 H0 B0 (i + 1), fun σ2 H2 p' => ⟨ds.length - (i + 1), by omega, rfl, hlt, p'⟩, fun y H'' hy => ?_⟩
    obtain ⟨eH, hy⟩ := hy
    subst eH
    obtain ⟨d, hdx, rx⟩ := hr'.get' (hy vs' hq)
    exact px_step hI' e0 en2 ow2 rx x q (hs i d ρ' O' B' hdx hI')
  · have e1 : i = ds.length := by omega
    subst e1
    exact .inl ⟨⟨vs', hq, by omega⟩, q.nx _ _ _ _ _ _ (hd _ _ _ hI') e0 en2 ow2⟩
/-- tuple(x) of a tuple: itself -/
theorem we_tupleT {k : KD} {t : TA} (h : Wa K E e t ρ B fun as B1 => ∃ xs : List D, as = [.tup xs] ∧ k (.tup xs) B1) : We K E e (tCB (fun xs H Q => ∃ p ys, xs = [.ref p] ∧ ((SqL K H p ys ∧ ∀ l, H l = none → Q (.ref l) (upd H l (.tup ys))) ∨ (SqT K H p ys ∧ Q (.ref p) H))) t) ρ B k :=
  we_cb fun σ H G Q s en x q => h σ H G Q s en x fun ds vs B1 G1 H1 ⟨xs, ed, hk⟩ e1 r1 => q ds vs B1 G1 H1 (fun ws H2 G2 Q2 s2 r2 q2 => by
    subst ed
    obtain ⟨v, _, rfl, ⟨a, us, rfl, ha, hr⟩, rfl⟩ := r2
    exact ⟨a, us, rfl, .inr ⟨sqt_up s2 ha, q2 _ _ _ _ _ hk (Ext.refl s2) ⟨a, us, rfl, ha, hr⟩⟩⟩) e1 r1
end
end AW

set_option linter.all false
set_option maxRecDepth 100000
set_option maxHeartbeats 4000000
namespace AW
open PySem PySem.Spec PyProof.Rows L2 RZ LamX
variable [Tbs]
section
variable {K : PySem.W.Frag} {E E' : XK} {e : EW} {ρ : List (Option D)} {B : Int} {k : KD} {κ : KS} {κx : KX} {ta tb tc tl te ti : TE} {tt : TT} {t : TA} {s ts us tbody : TS} {g : TG} {i j n : Nat} {ds : List D} {O : List (Addr × OC)} {p : Addr} {es : List D}
/-- l[j] = e, l owned -/
theorem wx_item (hn : O[n]? = some (p, .list es)) (hi : ρ[i]? = some (some (.val (.ref p)))) (h : We K E e ta ρ B fun d B1 => We K E e tb ρ B1 fun c B2 => ∃ m : Nat, c = .int m ∧ m < es.length ∧ κx.nx ρ (O.set n (p, .list (es.set m d))) B2) : WOw K E e (tAsg ta (gSub (tVar i) tb rSetL)) ρ B O κx := fun σ H G Dn G0 H0 B0 en ow ex x q => by
  obtain ⟨v0, hv0, e0⟩ := en.get hi
  rw [show v0 = _ from e0] at hv0
  obtain ⟨np, gp, vs, hL, hr⟩ := own_at ow hn
  refine h σ H G _ ex.sub en (x.ext ex) fun d v B1 G1 H1 hb e1 rv => ?_
  refine ⟨.ref p, hv0, ?_⟩
  refine hb σ H1 G1 _ e1.sub (en.mono e1.le) (x.ext (ex.trans e1)) fun c w B2 G2 H2 ⟨m, ec, hm, hk⟩ e2 rw_ => ?_
  subst ec
  rw [show w = _ from rw_]
  have e12 := e1.trans e2
  obtain ⟨z1, z2⟩ := e12.fr p _ hL gp ⟨(fun _ z => nomatch z), fun _ z => nomatch z⟩
  have hvl : es.length = vs.length := hr.length
  have hix : ixN vs.length (m : Int) = some m := by
    unfold ixN
    rw [if_pos (by omega), if_pos (by omega), Int.toNat_natCast]
  refine ⟨p, vs, (m : Int), m, rfl, rfl, z1, hix, ?_⟩
  exact q.nx _ _ σ B2 G2 _ hk ((ex.trans e12).chgN np z2) (en.mono e12.le) (owns_set (ow.ext e12) hn ⟨_, upd_same, RepL.set (rv.mono e2.le) m (hr.mono e12.le)⟩)
theorem ro_notB {a b : Bool} (h : k (.bl (!decide (a = b))) B) : Ro K E e rNotB (.bl a) (.bl b) B k := fun v w H G Q s r1 r2 x q => by
  rw [show v = _ from r1, show w = _ from r2]
  exact ⟨a, b, rfl, rfl, q _ _ _ _ _ h (Ext.refl s) rfl⟩
theorem ro_isB {a b : Bool} (h : k (.bl (decide (a = b))) B) : Ro K E e rIsB (.bl a) (.bl b) B k := fun v w H G Q s r1 r2 x q => by
  rw [show v = _ from r1, show w = _ from r2]
  exact ⟨a, b, rfl, rfl, q _ _ _ _ _ h (Ext.refl s) rfl⟩
theorem ro_neSt {i j : Str} (h : k (.bl (!decide (i = j))) B) : Ro K E e rNe (.str i) (.str j) B k := fun x y H G Q s r1 r2 _ q => by
  rw [show x = _ from r1, show y = _ from r2]
  refine ⟨rfl, ?_⟩
  rw [strs_eq]
  exact q _ _ _ _ _ h (Ext.refl s) rfl
theorem ro_ninS {a b : Str} (h : k (.bl (!(!(Builtin.Str.occurrences b a 0 b.length 1).isEmpty))) B) : Ro K E e (fun x y H Q => ∃ i j, x = .str i ∧ y = .str j ∧ Q (.bl (!(!(Builtin.Str.occurrences j i 0 j.length 1).isEmpty))) H) (.str a) (.str b) B k := fun x y H G Q s r1 r2 _ q => by
  rw [show x = _ from r1, show y = _ from r2]
  exact ⟨a, b, rfl, rfl, q _ _ _ _ _ h (Ext.refl s) rfl⟩
end
end AW

set_option linter.all false
set_option maxRecDepth 100000
set_option maxHeartbeats 4000000
namespace AW
open PySem PySem.Spec PyProof.Rows L2 RZ LamX
variable [Tbs]
section
variable {K : PySem.W.Frag} {E E' : XK} {e : EW} {ρ : List (Option D)} {B : Int} {k : KD} {κ : KS} {κx : KX} {ta tb tc tl te ti : TE} {tt : TT} {t : TA} {s ts us tbody : TS} {g : TG} {i j n : Nat} {ds : List D} {O : List (Addr × OC)} {p : Addr} {es : List D}
/-- a value read while a list is owned: the list may be looked at; the value is an int -/
theorem weo_peekI (hn : O[n]? = some (p, .list es)) (hi : ρ[i]? = some (some (.val (.ref p)))) (h : We K E e ta (ρ.set i (some (.lst es))) B fun d B1 => ∃ z : Int, d = .int z ∧ k d B1) : WeO K E e ta ρ B O k := fun σ H G G0 H0 B0 Q en ow ex x q => by
  obtain ⟨v0, hv0, e0⟩ := en.get hi
  rw [show v0 = _ from e0] at hv0
  obtain ⟨np, gp, vs, hL, hr⟩ := own_at ow hn
  obtain ⟨ex2, le2⟩ := ext_tellN ex np gp hL
  have en2 := EnvR.set (d := .lst es) (v := .ref p) ⟨p, vs, rfl, upd_same, hr.mono le2⟩ i (en.mono le2)
  rw [set_id hv0] at en2
  refine h σ H _ _ ex2.sub en2 (x.ext ex2) fun d v B1 G1 H1 ⟨z, ed, hk⟩ e1 r1 => ?_
  subst ed
  rw [show v = _ from r1]
  have hp1 : G1 p = some (.lst vs) := e1.le.keep p _ upd_same nopen_lst
  have leG : Le G B (fun a => if a = p then none else G1 a) B1 := by
    refine ⟨e1.le.b, fun a o ha hpn => ?_, fun a k l c s r ha => ?_, fun z => ?_⟩
    · have ne : a ≠ p := ne_of_none ha gp
      show (if a = p then none else G1 a) = _
      rw [if_neg ne]
      exact e1.le.keep a o (by rw [upd_ne ne]; exact ha) hpn
    · have ne : a ≠ p := ne_of_none ha gp
      obtain ⟨s', r', k1, k2⟩ := e1.le.pen a k l c s r (by rw [upd_ne ne]; exact ha)
      refine ⟨s', r', ?_, k2⟩
      show (if a = p then none else G1 a) = _
      rw [if_neg ne]
      exact k1
    · have z1 : Tabs Tbs.T G1 := e1.le.tb (z.ext fun b o hb => by rw [upd_ne (ne_of_none hb gp)]; exact hb)
      intro P hP
      obtain ⟨ps, t1, t2, t3⟩ := z1 P hP
      have ne : P.1 ≠ p := fun w => by rw [w, hp1] at t1; cases t1
      refine ⟨ps, ?_, t2, fun pos cv hc => ?_⟩
      · show (if P.1 = p then none else G1 P.1) = _
        rw [if_neg ne]; exact t1
      · obtain ⟨c, c1, c2⟩ := t3 pos cv hc
        have nc : c ≠ p := fun w => by rw [w, hp1] at c2; cases c2
        refine ⟨c, c1, ?_⟩
        show (if c = p then none else G1 c) = _
        rw [if_neg nc]; exact c2
  refine q (.int z) _ B1 (fun a => if a = p then none else G1 a) H1 hk ⟨leG, fun a o ha => ?_, fun a o ha na nt => ?_⟩ rfl
  · have ha : (if a = p then none else G1 a) = some o := ha
    split at ha
    · cases ha
    · exact e1.sub _ _ ha
  · by_cases w : a = p
    · subst w
      rw [hL] at ha
      cases ha
      exact ⟨e1.sub _ _ hp1, if_pos rfl⟩
    · obtain ⟨z1, z2⟩ := e1.fr a o ha (by rw [upd_ne w]; exact na) nt
      refine ⟨z1, ?_⟩
      show (if a = p then none else G1 a) = none
      rw [if_neg w]; exact z2
def WaO (K : PySem.W.Frag) (E : XK) (e : EW) (t : TA) (ρ : List (Option D)) (B : Int) (O : List (Addr × OC)) (k : KL) : Prop := ∀ σ H G G0 H0 B0 (Q : List V → Hp → Prop), EnvR K G B ρ σ → Owns K G0 H0 G H B O → Ext G0 H0 B0 G H B → XOk K E e G0 H0 B0 → (∀ ds vs B' G' H', k ds B' → Ext G H B G' H' B' → RepL K G' B' ds vs → Q vs H') → t σ H Q
theorem wao_nil {k : KL} (h : k [] B) : WaO K E e tNil ρ B O k := fun σ H G G0 H0 B0 Q en ow ex x q => q _ _ _ _ _ h (Ext.refl ex.sub) rfl
theorem wao_cons {k : KL} (h : WeO K E e ta ρ B O fun a B1 => WaO K E e t ρ B1 O fun ds B2 => k (a :: ds) B2) : WaO K E e (tCons ta t) ρ B O k := fun σ H G G0 H0 B0 Q en ow ex x q =>
  h σ H G G0 H0 B0 _ en ow ex x fun a v B1 G1 H1 h1 e1 r1 => h1 σ H1 G1 G0 H0 B0 _ (en.mono e1.le) (ow.ext e1) (ex.trans e1) x fun ds vs B2 G2 H2 h2 e2 r2 => q _ _ _ _ _ h2 (e1.trans e2) ⟨v, vs, rfl, r1.mono e2.le, r2⟩
theorem weo_tup (h : WaO K E e t ρ B O fun ds B1 => ds.length ≤ sizeLine ∧ k (.tup ds) B1) : WeO K E e (tTup t) ρ B O k := fun σ H G G0 H0 B0 Q en ow ex x q =>
  h σ H G G0 H0 B0 _ en ow ex x fun ds vs B1 G1 H1 ⟨h0, h1⟩ e1 r1 => ⟨by rw [← r1.length]; exact h0, fun p np => q _ _ _ _ _ h1 (e1.trans (Ext.new e1.sub np)) ⟨p, vs, rfl, SqT.of upd_same, r1.mono (Ext.new (B := B1) e1.sub np).le⟩⟩
/-- l[c] = v, l owned and looked at; c as it is written -/
theorem wx_itemO (hn : O[n]? = some (p, .list es)) (hi : ρ[i]? = some (some (.val (.ref p)))) (h : WeO K E e ta ρ B O fun d B1 => We K E e tb ρ B1 fun c B2 => ∃ (z : Int) (m : Nat), c = .int z ∧ ixN es.length z = some m ∧ κx.nx ρ (O.set n (p, .list (es.set m d))) B2) : WOw K E e (tAsg ta (gSub (tVar i) tb rSetL)) ρ B O κx := fun σ H G Dn G0 H0 B0 en ow ex x q => by
  obtain ⟨v0, hv0, e0⟩ := en.get hi
  rw [show v0 = _ from e0] at hv0
  obtain ⟨np, gp, vs, hL, hr⟩ := own_at ow hn
  refine h σ H G G0 H0 B0 _ en ow ex x fun d v B1 G1 H1 hb e1 rv => ?_
  refine ⟨.ref p, hv0, ?_⟩
  refine hb σ H1 G1 _ e1.sub (en.mono e1.le) (x.ext (ex.trans e1)) fun c w B2 G2 H2 ⟨z, m, ec, hm, hk⟩ e2 rw_ => ?_
  subst ec
  rw [show w = _ from rw_]
  have e12 := e1.trans e2
  obtain ⟨z1, z2⟩ := e12.fr p _ hL gp ⟨(fun _ z => nomatch z), fun _ z => nomatch z⟩
  have hvl : es.length = vs.length := hr.length
  refine ⟨p, vs, z, m, rfl, rfl, z1, by rw [← hvl]; exact hm, ?_⟩
  exact q.nx _ _ σ B2 G2 _ hk ((ex.trans e12).chgN np z2) (en.mono e12.le) (owns_set (ow.ext e12) hn ⟨_, upd_same, RepL.set (rv.mono e2.le) m (hr.mono e12.le)⟩)
end
section
variable {K : PySem.W.Frag} {E E' E1 : XK} {e : EW} {ρ : List (Option D)} {B : Int} {k : KD} {κ : KS} {ta tb tl te : TE} {t : TA} {i j : Nat}
/-- [f(x, y) for x, y in a tuple of pairs] -/
theorem we_lc_pairT (hij : i ≠ j) (h : We K E e tl ρ B fun d B1 => ∃ xs : List (D × D), d = .tup (xs.map fun z => .tup [z.1, z.2]) ∧ xs.length < sizeLine ∧ ∃ f : D → D → D, (∀ (n : Nat) (x y : D), xs[n]? = some (x, y) → ∀ k' : KD, k' (f x y) B1 → We K E1 noE te ((((ρ.set j none).set i none).set i (some x)).set j (some y)) B1 k') ∧ k (.lst (xs.map fun z => f z.1 z.2)) B1) :
    We K E e (tLc (iTup K tl) (gTup K 2 (gCons (gName i) (gCons (gName j) gNil))) tYes te [i, j]) ρ B k := fun σ H G Q s en x q =>
  h σ H G _ s en x fun d v B1 G1 H1 ⟨xs, ed, hz, f, hs, hk⟩ e1 r1 => by
    subst ed
    obtain ⟨a, us, rfl, ha, hr⟩ := r1
    have hlen : us.length = xs.length := by rw [← hr.length, List.length_map]
    have en1 := en.mono e1.le
    refine ⟨a, rfl, ⟨us, (Le.of_sub (B := B) (B' := B) e1.sub (Int.le_refl _)).seqT ha⟩, fun L nL => ?_⟩
    refine lc_tup (xs := us) (fun n H' => LcOk K (fun out B => out = (xs.map fun z => f z.1 z.2).take n ∧ B = B1) L G1 H1 B1 H') (lc_start e1.sub nL ⟨by simp, rfl⟩) (fun i H' _ z => by
      obtain ⟨out, B', G', acc, hI, e2, _⟩ := z
      exact (Le.of_sub (B := B) (B' := B) e2.sub (Int.le_refl _)).seqT (e2.le.seqT ha)) ?_ ?_
    · intro n y H' hi hP
      obtain ⟨dx, hdx, rx⟩ := hr.get' hi
      rw [List.getElem?_map] at hdx
      have hn : n < xs.length := by rw [← hlen]; exact (List.getElem?_eq_some_iff.mp hi).1
      have hx : xs[n]? = some xs[n] := List.getElem?_eq_getElem hn
      rw [hx] at hdx
      generalize xs[n] = z at hx hdx
      obtain ⟨zx, zy⟩ := z
      cases hdx
      obtain ⟨out, B', G', acc, ⟨eo, eB⟩, e2, gL, hL, hr2⟩ := hP
      subst eB
      obtain ⟨T, ws, rfl, hT, v, _, rfl, rv, w, _, rfl, rw_, rfl⟩ := rx
      have hT2 : SqT K H' T [v, w] := (Le.of_sub (B := B) (B' := B) e2.sub (Int.le_refl _)).seqT (e2.le.seqT hT)
      refine ⟨T, [v, w], rfl, hT2, rfl, v, [w], rfl, w, [], rfl, rfl, ?_, ?_⟩
      · show ((((((σ.set j none).set i none).set i (some v)).set j (some w)).set j none).set i none) = (σ.set j none).set i none
        exact set_two σ hij (some v) (some v) (some w) none
      · have en2 : EnvR K G' B' ((((ρ.set j none).set i none).set i (some zx)).set j (some zy)) ((((σ.set j none).set i none).set i (some v)).set j (some w)) := EnvR.set (rw_.mono e2.le) j (EnvR.set (rv.mono e2.le) i (EnvR.wipe1 i (EnvR.wipe1 j (en1.mono e2.le))))
        refine hs n zx zy hx (fun d B2 => d = f zx zy ∧ B2 = B') ⟨rfl, rfl⟩ _ _ G' _ e2.sub en2 XOk.no fun d u B4 G4 H4 ⟨ed, eB⟩ e4 r4 => ?_
        subst ed eB
        obtain ⟨z1, z2⟩ := e4.fr L _ hL gL ⟨(fun _ z => nomatch z), fun _ z => nomatch z⟩
        have hlen2 : acc.length < sizeLine := by
          rw [← hr2.length, eo, List.length_take, List.length_map]
          omega
        refine ⟨acc, z1, hlen2, out ++ [f zx zy], B4, G4, acc ++ [u], ⟨by rw [eo]; exact map_stepP (f := fun z : D × D => f z.1 z.2) hx, rfl⟩, ?_, z2, upd_same, (hr2.mono e4.le).append ⟨u, [], rfl, r4, rfl⟩⟩
        have eA := e2.trans e4
        refine ⟨eA.le, fun a o z => ?_, fun a o z n t => ?_⟩
        · have : a ≠ L := fun q => by rw [q, z2] at z; cases z
          rw [upd_ne this]; exact eA.sub _ _ z
        · have : a ≠ L := ne_of_none z nL
          rw [upd_ne this]
          exact eA.fr _ _ z n t
    · intro H' hz2
      refine lc_end e1 nL hz2 (fun out B' hI => ?_) q
      obtain ⟨eo, eB⟩ := hI
      subst eB
      have : (xs.map fun z => f z.1 z.2).take us.length = xs.map fun z => f z.1 z.2 := List.take_of_length_le (by rw [List.length_map]; omega)
      rw [eo, this]
      exact hk
/-- list(tuple) -/
theorem we_listTL (h : Wa K E e t ρ B fun ds B1 => ∃ xs : List D, ds = [.tup xs] ∧ k (.lst xs) B1) :
    We K E e (tCB (fun xs H Q => ∃ p ys, xs = [.ref p] ∧ (SqL K H p ys ∨ SqT K H p ys) ∧ ∀ l, H l = none → Q (.ref l) (upd H l (.lst ys))) t) ρ B k :=
  we_cb fun σ H G Q s en x q => h σ H G Q s en x fun ds vs B1 G1 H1 ⟨xs, ed, hk⟩ e1 r1 => q ds vs B1 G1 H1 (fun ws H2 G2 Q2 s2 r2 q2 => by
    subst ed
    obtain ⟨v, _, rfl, ⟨a, us, rfl, ha, hr⟩, rfl⟩ := r2
    exact ⟨a, us, rfl, .inr ((Le.of_sub (B := B1) (B' := B1) s2 (Int.le_refl _)).seqT ha), fun l nl => q2 _ _ _ _ _ hk (Ext.new (B := B1) s2 nl) ⟨l, us, rfl, upd_same, hr.mono (Ext.new (B := B1) s2 nl).le⟩⟩) e1 r1
end
end AW

set_option linter.all false
set_option maxRecDepth 100000
set_option maxHeartbeats 4000000
namespace AW
open PySem PySem.Spec PyProof.Rows L2 RZ LamX
variable [Tbs]
/-! texts times ints, strip; targets that take tuples and lists; loops over either, while things are owned -/
def rMulS : R2 := fun x y H Q => ∃ z n, x = .str z ∧ y = .int n ∧ MulOk z n ∧ Q (.str (Txt.mul z n)) H
theorem op_mulS {X : Cx} : OpR X (binaryOp .Mult) rMulS := by
  intro pins s σ H x y v u Q I rx ry h
  obtain ⟨z, n, rfl, rfl, hok, q⟩ := h
  obtain ⟨t, rfl⟩ := rx
  obtain ⟨t', rfl⟩ := ry
  exact SB.mul hok fun t1 k => ⟨.str _, H, I.tok _, ⟨_, rfl⟩, q⟩
def gOr (t u : TG) : TG := fun v σ H Q => t v σ H Q ∨ u v σ H Q
theorem pg_or {X : Cx} {e : Expr} {t u : TG} (h1 : PG X e t) (h2 : PG X e u) : PG X e (gOr t u) := ⟨fun pins s σ H v w Q I r h => h.elim (h1.run pins s σ H v w Q I r) (h2.run pins s σ H v w Q I r)⟩
section
variable {K : PySem.W.Frag} {E E' E1 : XK} {e : EW} {ρ : List (Option D)} {B : Int} {k : KD} {κ : KS} {κx : KX} {ta tb tc tl te ti : TE} {tt : TT} {t : TA} {s ts us tbody : TS} {g g1 g2 : TG} {i j n sl : Nat} {ds : List D} {O : List (Addr × OC)} {p : Addr} {es : List D} {t1 t2 : TI}
theorem ro_mulS {z : Str} {n : Int} (hok : MulOk z n) (h : k (.str (Txt.mul z n)) B) : Ro K E e rMulS (.str z) (.int n) B k := fun x y H G Q s r1 r2 _ q => by
  rw [show x = _ from r1, show y = _ from r2]
  exact ⟨z, n, rfl, rfl, hok, q _ _ _ _ _ h (Ext.refl s) rfl⟩
theorem wg_orL {d : D} {k : KE'} (h : Wg K g1 d ρ B k) : Wg K (gOr g1 g2) d ρ B k := fun v σ H G Q s en r q => .inl (h v σ H G Q s en r q)
theorem wg_orR {d : D} {k : KE'} (h : Wg K g2 d ρ B k) : Wg K (gOr g1 g2) d ρ B k := fun v σ H G Q s en r q => .inr (h v σ H G Q s en r q)
theorem wx_orL (h : WOw K E e (tFor t1 g ts) ρ B O κx) : WOw K E e (tFor (iOr t1 t2) g ts) ρ B O κx := fun σ H G Dn G0 H0 B0 en ow ex x q => .inl (h σ H G Dn G0 H0 B0 en ow ex x q)
theorem wx_orR (h : WOw K E e (tFor t2 g ts) ρ B O κx) : WOw K E e (tFor (iOr t1 t2) g ts) ρ B O κx := fun σ H G Dn G0 H0 B0 en ow ex x q => .inr (h σ H G Dn G0 H0 B0 en ow ex x q)
theorem wx_for_seq (b : Bool) (hj : ρ[j]? = some (some (seqD b ds))) (h : ∀ u : V, ∃ I : IX, I 0 (ρ.set j (some (.at_ u (seqD b ds)))) O B ∧ (∀ n ρ' O' B', I n ρ' O' B' → ρ'[j]? = some (some (.at_ u (seqD b ds)))) ∧ (∀ n d ρ' O' B', ds[n]? = some d → I n ρ' O' B' → Wg K g d ρ' B' fun ρ2 B2 => WOw K E e tbody ρ2 B2 O' { nx := I (n + 1), rt := κx.rt, bk := κx.nx, ct := I (n + 1) }) ∧ ∀ ρ' O' B', I ds.length ρ' O' B' → κx.nx ρ' O' B') :
    WOw K E e (tFor (iOr (iList K (tVar j)) (iTup K (tVar j))) g tbody) ρ B O κx := by
  cases b with
  | false => exact wx_orL (wx_for_list hj h)
  | true => exact wx_orR (wx_for_tup hj h)
/-- text.strip(signs) -/
theorem we_stripC (h : We K E e ta ρ B fun d B1 => ∃ a : Str, d = .str a ∧ a.length ≤ sizeLine ∧ We K E e tb ρ B1 fun d2 B2 => ∃ b : Str, d2 = .str b ∧ k (.str (Txt.stripChars a b)) B2) :
    We K E e (tBM K "str" (fun x xs H Q => ∃ a b, x = .str a ∧ xs = [.str b] ∧ a.length ≤ sizeLine ∧ Q (.str (Txt.stripChars a b)) H) ta (tCons tb tNil)) ρ B k := fun σ H G Q s en x q =>
  h σ H G _ s en x fun d v B1 G1 H1 ⟨a, ed, hl, h1⟩ e1 r1 => by
    subst ed
    rw [show v = _ from r1]
    refine ⟨rfl, h1 σ H1 G1 _ e1.sub (en.mono e1.le) (x.ext e1) fun d2 w B2 G2 H2 ⟨b, ed2, hk⟩ e2 r2 => ?_⟩
    subst ed2
    rw [show w = _ from r2]
    exact ⟨a, b, rfl, rfl, hl, q _ _ _ _ _ hk (e1.trans e2) rfl⟩
/-- [f(c) for c in text], a long one -/
theorem we_lc_strL (h : We K E e te ρ B fun d B1 => ∃ (x : Str) (f : Str → D), d = .str x ∧ (chS x).length < sizeLine ∧
    (∀ c ∈ chS x, ∀ k' : KD, k' (f c) B1 → We K E1 noE tl ((ρ.set sl none).set sl (some (.str c))) B1 k') ∧ k (.lst ((chS x).map f)) B1) :
    We K E e (tLc (iStr te) (gName sl) tYes tl [sl]) ρ B k := fun σ H G Q s en x q =>
  h σ H G _ s en x fun d v B1 G1 H1 ⟨z, f, ed, hl, he, hk⟩ e1 r1 => by
    subst ed
    rw [show v = _ from r1]
    refine ⟨z, rfl, fun L nL => ?_⟩
    refine lc_it walk_str (fun n H' => LcOk K (fun out B' => out.length ≤ n ∧ (out = ((chS z).take n).map f ∧ B' = B1)) L G1 H1 B1 H') (lc_start e1.sub nL ⟨Nat.le_refl _, rfl, rfl⟩) (fun _ _ _ _ => trivial) ?_ ?_
    · intro n y H' H'' hn hz ⟨eH, c, hc, ey⟩
      subst eH ey
      have hcc := chS_get hc
      have hm := List.mem_of_getElem? hcc
      have hlt := (List.getElem?_eq_some_iff.mp hcc).1
      refine lc_step (E1 := E1) (ρ := ρ) (I := fun n out B' => out = ((chS z).take n).map f ∧ B' = B1) (d := .str ⟨#[c]⟩) nL e1.sub (en.mono e1.le) hz (by omega) rfl (fun out B' ⟨eo, eB⟩ => ?_)
      subst eB
      refine wt_yes ⟨fun _ => he _ hm _ ⟨?_, rfl⟩, fun h => nomatch h⟩
      rw [List.take_add_one, hcc, Option.toList_some, List.map_append, eo]; rfl
    · intro H' hz
      refine lc_end e1 nL hz (fun out B' ⟨_, eo, eB⟩ => ?_) q
      rw [← chS_len, List.take_length] at eo
      rw [eo, eB]
      exact hk
end
/-! signs of texts put together -/
theorem chS_map (x : Str) : chS x = x.cps.toList.map fun c => (⟨#[c]⟩ : Str) := rfl
theorem foldl_arr (l : List (Array Nat)) (a : Array Nat) : (l.foldl (· ++ ·) a).toList = a.toList ++ (l.map (·.toList)).flatten := by
  induction l generalizing a with
  | nil => simp
  | cons x r ih => rw [List.foldl_cons, ih]; simp
theorem chS_mul (z : Str) (n : Int) (hn : 0 ≤ n) : chS (Txt.mul z n) = (List.replicate n.toNat (chS z)).flatten := by
  unfold Txt.mul
  by_cases h1 : n < 1
  · rw [if_pos h1, show n.toNat = 0 by omega]; rfl
  · rw [if_neg h1]
    by_cases h2 : (n == 1 || z.length == 0) = true
    · rw [if_pos h2]
      rw [Bool.or_eq_true, beq_iff_eq, beq_iff_eq] at h2
      rcases h2 with h2 | h2
      · rw [h2]; simp
      · have : chS z = [] := List.eq_nil_of_length_eq_zero (by rw [chS_len]; exact h2)
        rw [this]; simp
    · rw [if_neg h2]
      unfold chS
      rw [foldl_arr]
      simp [List.map_replicate, List.map_flatten]
theorem mul_ok {z : Str} {n : Int} (h0 : 0 ≤ n) (h1 : n ≤ 10000) (hz : z.length ≤ 1000) : MulOk z n := by
  refine ⟨?_, fun a b => ?_, fun a b => ?_⟩
  · rw [decide_eq_false (by omega), decide_eq_false (by omega)]; rfl
  · have : (2 ^ 63 - 1 : Int) / 10000 ≤ (2 ^ 63 - 1) / n := by
      refine Int.le_ediv_of_mul_le (by omega) ?_
      calc (2 ^ 63 - 1 : Int) / 10000 * n ≤ (2 ^ 63 - 1) / 10000 * 10000 := Int.mul_le_mul_of_nonneg_left h1 (by decide)
        _ ≤ 2 ^ 63 - 1 := by decide
    have h2 : (1000 : Int) ≤ (2 ^ 63 - 1) / 10000 := by decide
    omega
  · have h3 : z.length * n.toNat ≤ 1000 * 10000 := Nat.mul_le_mul hz (by omega)
    unfold Builtin.Str.tooLong
    simp only [decide_eq_false_iff_not]
    have h4 : (1000 * 10000 : Nat) ≤ sizeLine := by decide
    omega
end AW

set_option linter.all false
set_option maxRecDepth 100000
set_option maxHeartbeats 4000000
namespace AW
open PySem PySem.Spec PyProof.Rows L2 RZ LamX
variable [Tbs]
section
variable {K : PySem.W.Frag} {E E' E1 : XK} {e : EW} {ρ : List (Option D)} {B : Int} {k : KD} {κ : KS} {κx : KX} {ta tb tc tl te ti : TE} {tt : TT} {t : TA} {s ts us tbody : TS} {g g1 g2 : TG} {i j n sl : Nat} {ds : List D} {O : List (Addr × OC)} {p : Addr} {es : List D} {t1 t2 : TI} {pr : Pr}
/-- t + u, any tuples -/
theorem ro_catA {xs ys : List D} (hl : xs.length + ys.length ≤ sizeLine) (h : k (.tup (xs ++ ys)) B) : Ro K E e (rCatA K) (.tup xs) (.tup ys) B k := fun x y H G Q s r1 r2 _ q => by
  obtain ⟨a, us, rfl, ha, hr⟩ := r1
  obtain ⟨b, vs, rfl, hb, hr2⟩ := r2
  have up : ∀ {a us}, SqT K G a us → SqT K H a us := fun h => (Le.of_sub (B := B) (B' := B) s (Int.le_refl _)).seqT h
  refine ⟨a, b, us, vs, rfl, rfl, up ha, up hb, by rw [← hr.length, ← hr2.length]; exact hl, fun e1 => ?_, fun e1 e2 => ?_, fun e1 e2 p np => ?_⟩
  · have ex : xs = [] := List.eq_nil_of_length_eq_zero (by rw [hr.length, e1]; rfl)
    subst ex
    exact q _ _ _ _ _ h (Ext.refl s) ⟨b, vs, rfl, hb, hr2⟩
  · have ey : ys = [] := List.eq_nil_of_length_eq_zero (by rw [hr2.length, e2]; rfl)
    subst ey
    rw [List.append_nil] at h
    exact q _ _ _ _ _ h (Ext.refl s) ⟨a, us, rfl, ha, hr⟩
  · exact q _ _ _ _ _ h (Ext.new s np) ⟨p, us ++ vs, rfl, SqT.of upd_same, (hr.mono (Ext.new (B := B) s np).le).append (hr2.mono (Ext.new (B := B) s np).le)⟩
/-- an item of a list owned -/
theorem weo_ixL (hn : O[n]? = some (p, .list es)) (hi : ρ[i]? = some (some (.val (.ref p)))) (h : We K E e tb ρ B fun c B1 => ∃ (z : Int) (d : D), c = .int z ∧ atI es z = some d ∧ k d B1) : WeO K E e (tOp (rIxL K) (tVar i) tb) ρ B O k := fun σ H G G0 H0 B0 Q en ow ex x q => by
  obtain ⟨v0, hv0, e0⟩ := en.get hi
  rw [show v0 = _ from e0] at hv0
  refine ⟨.ref p, hv0, h σ H G _ ex.sub en (x.ext ex) fun c w B1 G1 H1 ⟨z, d, ec, hat, hk⟩ e1 r1 => ?_⟩
  subst ec
  obtain ⟨np, gp, vs, hL, hr⟩ := own_at (ow.ext e1) hn
  obtain ⟨v, h1, h2⟩ := hr.ixN hat
  exact ⟨p, vs, z, v, rfl, r1, SqL.of hL, h1, q _ _ _ _ _ hk e1 h2⟩
theorem weo_call (h : WaO K E e t ρ B O fun ds B1 => pr ds B1 k noE) : WeO K E e (tCall (spD K pr) [] E' t) ρ B O k := fun σ H G G0 H0 B0 Q en ow ex x q =>
  h σ H G G0 H0 B0 _ en ow ex x fun ds vs B1 G1 H1 h1 e1 r1 => by
    show spD K pr (vs ++ []) H1 Q E'
    rw [List.append_nil]
    exact ⟨G1, ds, B1, k, noE, e1.sub, r1, h1, q.ext e1, XOk.no⟩
/-- l.append(v), l owned and looked at -/
theorem wx_appO (hn : O[n]? = some (p, .list es)) (hi : ρ[i]? = some (some (.val (.ref p)))) (h : WeO K E e ta ρ B O fun d B1 => es.length < sizeLine ∧ κx.nx ρ (O.set n (p, .list (es ++ [d]))) B1) : WOw K E e (tDrop (tBM K "list" rAppend (tVar i) (tCons ta tNil))) ρ B O κx := fun σ H G Dn G0 H0 B0 en ow ex x q => by
  obtain ⟨v0, hv0, e0⟩ := en.get hi
  rw [show v0 = _ from e0] at hv0
  obtain ⟨np, gp, vs, hL, hr⟩ := own_at ow hn
  refine ⟨.ref p, hv0, .inl ⟨rfl, vs, SqL.of hL⟩, h σ H G G0 H0 B0 _ en ow ex x fun d v B1 G1 H1 ⟨hl, hk⟩ e1 r1 => ?_⟩
  obtain ⟨z1, z2⟩ := e1.fr p _ hL gp ⟨(fun _ z => nomatch z), fun _ z => nomatch z⟩
  refine ⟨p, vs, v, rfl, rfl, z1, by rw [← hr.length]; exact hl, ?_⟩
  exact q.nx _ _ σ B1 G1 _ hk ((ex.trans e1).chgN np z2) (en.mono e1.le) (owns_set (ow.ext e1) hn ⟨_, upd_same, (hr.mono e1.le).append ⟨v, [], rfl, r1, rfl⟩⟩)
/-- x, y, z = [], [], e -/
theorem wx_par3LL {l : Nat} (h : We K E e ta ρ B fun d B1 => ∀ a b, κx.nx (((ρ.set i (some (.val (.ref a)))).set j (some (.val (.ref b)))).set l (some d)) ((b, .list []) :: (a, .list []) :: O) B1) : WOw K E e (tPar3 i j l (tCons (tLst tNil) (tCons (tLst tNil) (tCons ta tNil)))) ρ B O κx := fun σ H G Dn G0 H0 B0 en ow ex x q => by
  refine ⟨by decide, fun a ha => ?_⟩
  have e1 : Ext G H B G (upd H a (.lst [])) B := Ext.hid ex.sub ha
  have ow1 : Owns K G0 H0 G (upd H a (.lst [])) B ((a, .list []) :: O) := owns_cons ow ex ha ⟨[], upd_same, rfl⟩
  refine ⟨by decide, fun b hb => ?_⟩
  have e2 : Ext G (upd H a (.lst [])) B G (upd (upd H a (.lst [])) b (.lst [])) B := Ext.hid e1.sub hb
  have ow2 : Owns K G0 H0 G (upd (upd H a (.lst [])) b (.lst [])) B ((b, .list []) :: (a, .list []) :: O) := owns_cons ow1 (ex.trans e1) hb ⟨[], upd_same, rfl⟩
  refine h σ _ G _ e2.sub en (x.ext (ex.trans (e1.trans e2))) fun d v B1 G1 H1 hk e3 r1 => ?_
  refine ⟨_, _, _, rfl, ?_⟩
  exact q.nx _ _ _ B1 G1 _ (hk a b) ((ex.trans (e1.trans e2)).trans e3) (EnvR.set r1 l (EnvR.set (d := .val (.ref b)) (v := .ref b) rfl j (EnvR.set (d := .val (.ref a)) (v := .ref a) rfl i (en.mono e3.le)))) (ow2.ext e3)
/-- min, max of a list of ints -/
theorem we_minI (h : Wa K E e t ρ B fun ds B1 => ∃ (ns : List Int) (m : Int), ds = [.lst (ns.map D.int)] ∧ m ∈ ns ∧ (∀ y ∈ ns, m ≤ y) ∧ k (.int m) B1) : We K E e (tCB (rMin K) t) ρ B k :=
  we_cb fun σ H G Q s en x q => h σ H G Q s en x fun ds vs B1 G1 H1 ⟨ns, m, ed, hm, hl, hk⟩ e1 r1 => q ds vs B1 G1 H1 (fun ws H2 G2 Q2 s2 r2 q2 => by
    subst ed
    obtain ⟨v, _, rfl, ⟨a, us, rfl, ha, hr⟩, rfl⟩ := r2
    have ev : us = ns.map V.int := RepL.intsV ns hr
    subst ev
    refine ⟨a, ns, rfl, SqL.of (s2 _ _ ha), List.length_pos_of_mem hm, fun m' h1 h2 => ?_⟩
    have e3 : m' = m := by have := hl m' h1; have := h2 m hm; omega
    rw [e3]
    exact q2 _ _ _ _ _ hk (Ext.refl s2) rfl) e1 r1
theorem we_maxI (h : Wa K E e t ρ B fun ds B1 => ∃ (ns : List Int) (m : Int), ds = [.lst (ns.map D.int)] ∧ m ∈ ns ∧ (∀ y ∈ ns, y ≤ m) ∧ k (.int m) B1) : We K E e (tCB (rMax K) t) ρ B k :=
  we_cb fun σ H G Q s en x q => h σ H G Q s en x fun ds vs B1 G1 H1 ⟨ns, m, ed, hm, hl, hk⟩ e1 r1 => q ds vs B1 G1 H1 (fun ws H2 G2 Q2 s2 r2 q2 => by
    subst ed
    obtain ⟨v, _, rfl, ⟨a, us, rfl, ha, hr⟩, rfl⟩ := r2
    have ev : us = ns.map V.int := RepL.intsV ns hr
    subst ev
    refine ⟨a, ns, rfl, SqL.of (s2 _ _ ha), List.length_pos_of_mem hm, fun m' h1 h2 => ?_⟩
    have e3 : m' = m := by have := hl m' h1; have := h2 m hm; omega
    rw [e3]
    exact q2 _ _ _ _ _ hk (Ext.refl s2) rfl) e1 r1
end
theorem chS_join (L : List Str) : chS (Txt.join "" L) = (L.map chS).flatten := by
  have e : Txt.join "" L = Str.join "" L := StrLaws.glued_eq_join "" L
  rw [e]
  clear e
  have ha : ∀ x y : Str, chS (x ++ y) = chS x ++ chS y := fun x y => by
    show ((x ++ y).cps.toList.map _) = _
    have : (x ++ y).cps = x.cps ++ y.cps := rfl
    rw [this, Array.toList_append, List.map_append]
    rfl
  induction L with
  | nil => rfl
  | cons x r ih =>
    cases r with
    | nil => simp [Str.join]
    | cons y r =>
      show chS (x ++ "" ++ Str.join "" (y :: r)) = _
      rw [ha, ha, ih]
      have : chS ("" : Str) = [] := rfl
      rw [this, List.append_nil]
      rfl
end AW

set_option linter.all false
set_option maxHeartbeats 2000000
namespace AW
open PySem PySem.Spec PyProof.Rows L2
variable [Tbs]
section
variable {P : Program} {w : World} {K : PySem.W.Frag} {mg : Str → Option Value} {base : Heap} {E E1 : XK} {e : EW} {ρ : List (Option D)} {B : Int} {k : KD} {tl te : TE} {tt : TT} {i j : Nat}
theorem lc_stepP {I : Nat → List D → Int → Prop} {L : Addr} {G1 H1 : Hp} {B1 : Int} {σ : L2.St} {n : Nat} {x y : D} {v : V} {H' : Hp} (hij : i ≠ j) (nL : H1 L = none) (sub1 : Sub G1 H1) (en : EnvR K G1 B1 ρ σ) (h : LcOk K (fun out B => out.length ≤ n ∧ I n out B) L G1 H1 B1 H') (hi : n < sizeLine) (rv : Rep K G1 B1 (.tup [x, y]) v)
    (hs : ∀ out B', I n out B' → Wt K E1 noE tt ((((ρ.set j none).set i none).set i (some x)).set j (some y)) B' fun b B3 => (b = true → We K E1 noE te ((((ρ.set j none).set i none).set i (some x)).set j (some y)) B3 fun y B4 => I (n + 1) (out ++ [y]) B4) ∧ (b = false → I (n + 1) out B3)) :
    gTup K 2 (gCons (gName i) (gCons (gName j) gNil)) v (wipe σ [i, j]) H' fun σ2 H2 => wipe σ2 [i, j] = wipe σ [i, j] ∧ tt σ2 H2 fun b H3 => if b = true then te σ2 H3 fun y H4 => ∃ acc, H4 L = some (.lst acc) ∧ acc.length < sizeLine ∧ LcOk K (fun out B => out.length ≤ n + 1 ∧ I (n + 1) out B) L G1 H1 B1 (upd H4 L (.lst (acc ++ [y]))) else LcOk K (fun out B => out.length ≤ n + 1 ∧ I (n + 1) out B) L G1 H1 B1 H3 := by
  obtain ⟨out, B', G', acc, ⟨hl, hI⟩, e2, gL, hL, hr⟩ := h
  obtain ⟨T, ws, rfl, hT, v, _, rfl, rv, w, _, rfl, rw_, rfl⟩ := rv
  have hT2 : SqT K H' T [v, w] := (Le.of_sub (B := B1) (B' := B1) e2.sub (Int.le_refl _)).seqT (e2.le.seqT hT)
  refine ⟨T, [v, w], rfl, hT2, rfl, v, [w], rfl, w, [], rfl, rfl, ?_, ?_⟩
  · show ((((((σ.set j none).set i none).set i (some v)).set j (some w)).set j none).set i none) = (σ.set j none).set i none
    exact set_two σ hij (some v) (some v) (some w) none
  · have en2 : EnvR K G' B' ((((ρ.set j none).set i none).set i (some x)).set j (some y)) ((((σ.set j none).set i none).set i (some v)).set j (some w)) := EnvR.set (rw_.mono e2.le) j (EnvR.set (rv.mono e2.le) i (EnvR.wipe1 i (EnvR.wipe1 j (en.mono e2.le))))
    refine hs out B' hI _ H' G' _ e2.sub en2 XOk.no fun b B3 G3 H3 h3 e3 => ?_
    cases b with
    | true =>
      rw [if_pos rfl]
      refine h3.1 rfl _ H3 G3 _ e3.sub (en2.mono e3.le) XOk.no fun y w B4 G4 H4 h4 e4 r4 => ?_
      obtain ⟨z1, z2⟩ := (e3.trans e4).fr L _ hL gL ⟨(fun _ z => nomatch z), fun _ z => nomatch z⟩
      refine ⟨acc, z1, by rw [← hr.length]; omega, out ++ [y], B4, G4, acc ++ [w], ⟨by rw [List.length_append, List.length_singleton]; omega, h4⟩, ?_, z2, upd_same, (hr.mono (e3.trans e4).le).append ⟨w, [], rfl, r4, rfl⟩⟩
      have eA := e2.trans (e3.trans e4)
      refine ⟨eA.le, fun a o z => ?_, fun a o z n t => ?_⟩
      · have : a ≠ L := fun q => by rw [q, z2] at z; cases z
        rw [upd_ne this]; exact eA.sub _ _ z
      · have : a ≠ L := ne_of_none z nL
        rw [upd_ne this]
        exact eA.fr _ _ z n t
    | false =>
      rw [if_neg Bool.false_ne_true]
      obtain ⟨z1, z2⟩ := e3.fr L _ hL gL ⟨(fun _ z => nomatch z), fun _ z => nomatch z⟩
      exact ⟨out, B3, G3, acc, ⟨Nat.le_succ_of_le hl, h3.2 rfl⟩, e2.trans e3, z2, z1, hr.mono e3.le⟩
/-- [f(x, y) for x, y in a tuple of pairs if p(x, y)] -/
theorem we_lc_pairTf {α : Type} {fx fy f : α → D} (hij : i ≠ j) (h : We K E e tl ρ B fun d B1 => ∃ (xs : List α) (p : α → Bool), d = .tup (xs.map fun z => .tup [fx z, fy z]) ∧ xs.length < sizeLine ∧
    (∀ z ∈ xs, ∀ kb : Bool → Int → Prop, kb (p z) B1 → Wt K E1 noE tt ((((ρ.set j none).set i none).set i (some (fx z))).set j (some (fy z))) B1 kb) ∧
    (∀ z ∈ xs, ∀ k' : KD, k' (f z) B1 → We K E1 noE te ((((ρ.set j none).set i none).set i (some (fx z))).set j (some (fy z))) B1 k') ∧ k (.lst ((xs.filter p).map f)) B1) :
    We K E e (tLc (iTup K tl) (gTup K 2 (gCons (gName i) (gCons (gName j) gNil))) tt te [i, j]) ρ B k := fun σ H G Q s en x q =>
  h σ H G _ s en x fun d v B1 G1 H1 ⟨xs, p, ed, hz, ht, hs, hk⟩ e1 r1 => by
    subst ed
    obtain ⟨a, us, rfl, ha, hr⟩ := r1
    have hlen : us.length = xs.length := by rw [← hr.length, List.length_map]
    refine ⟨a, rfl, ⟨us, (Le.of_sub (B := B) (B' := B) e1.sub (Int.le_refl _)).seqT ha⟩, fun L nL => ?_⟩
    refine lc_tup (xs := us) (fun n H' => LcOk K (fun out B => out.length ≤ n ∧ (out = ((xs.take n).filter p).map f ∧ B = B1)) L G1 H1 B1 H') (lc_start e1.sub nL ⟨Nat.le_refl _, rfl, rfl⟩) (fun i H' _ z => by
      obtain ⟨out, B', G', acc, hI, e2, _⟩ := z
      exact (Le.of_sub (B := B) (B' := B) e2.sub (Int.le_refl _)).seqT (e2.le.seqT ha)) ?_ ?_
    · intro n y H' hi hP
      obtain ⟨dx, hdx, rx⟩ := hr.get' hi
      rw [List.getElem?_map] at hdx
      obtain ⟨z, hx, ey⟩ := Option.map_eq_some_iff.mp hdx
      subst ey
      have hm := List.mem_of_getElem? hx
      have hn : n < xs.length := (List.getElem?_eq_some_iff.mp hx).1
      exact lc_stepP (I := fun n out B => out = ((xs.take n).filter p).map f ∧ B = B1) hij nL e1.sub (en.mono e1.le) hP (by omega) rx fun out B' ⟨eo, eB⟩ => by
        subst eB
        refine ht z hm _ ⟨fun hb => hs z hm _ ⟨?_, rfl⟩, fun hb => ⟨?_, rfl⟩⟩
        · rw [eo, filt_step hx, hb, if_pos rfl]
        · rw [eo, filt_step hx, hb, if_neg Bool.false_ne_true, List.append_nil]
    · intro H' hz2
      refine lc_end e1 nL hz2 (fun out B' hI => ?_) q
      obtain ⟨_, eo, eB⟩ := hI
      subst eB
      rw [eo, List.take_of_length_le (by omega)]
      exact hk
end
end AW

set_option linter.all false
set_option maxHeartbeats 2000000
namespace AW
open PySem PySem.Spec PyProof.Rows L2
variable [Tbs]
section
variable {P : Program} {w : World} {K : PySem.W.Frag} {mg : Str → Option Value} {base : Heap} {E E1 : XK} {e : EW} {ρ : List (Option D)} {B : Int} {k : KD} {ti : TE} {i j : Nat}
theorem we_cdIn {neg : Bool} {l : List (Str × List V)} (h : We K E e ti ρ B fun d B1 => ∃ c : Str, d = .str c ∧ k (.bl (xor neg (l.lookup c).isSome)) B1) : We K E e (tCDIn neg l ti) ρ B k := fun σ H G Q s en x q =>
  h σ H G _ s en x fun d v B1 G1 H1 ⟨c, ed, hk⟩ e1 r1 => by
    subst ed
    rw [show v = _ from r1]
    exact ⟨c, rfl, q _ _ _ _ _ hk e1 rfl⟩
theorem ro_addS {a b : Str} (hz : a.length + b.length ≤ sizeLine) (h : k (.str (a ++ b)) B) : Ro K E e (fun x y H Q => ∃ i j, x = .str i ∧ y = .str j ∧ i.length + j.length ≤ sizeLine ∧ Q (.str (i ++ j)) H) (.str a) (.str b) B k := fun x y H G Q s r1 r2 _ q =>
  ⟨a, b, r1, r2, hz, q _ _ _ _ _ h (Ext.refl s) rfl⟩
end
end AW

set_option linter.all false
set_option maxRecDepth 100000
set_option maxHeartbeats 4000000
namespace AW
open PySem PySem.Spec PyProof.Rows L2
def top (i : Nat) : Stmt := PySem.Challenge.pw_areawalks_k59_whole_long_rounds.main.body.getD i (.Pass ⟨0, 0, 0, 0⟩)
abbrev s__wall : Stmt := top 1
abbrev s_BadNumber_init : Stmt := inClass (top 4) 0
abbrev s_BadWord_init : Stmt := inClass (top 5) 0
abbrev s_is_integer : Stmt := top 7
abbrev s_check_integer : Stmt := top 8
abbrev s_check_from : Stmt := top 9
abbrev s_check_whole : Stmt := top 10
abbrev s_joined_runs : Stmt := top 12
abbrev s_KingWalk_init : Stmt := inClass (top 15) 0
abbrev s_KingWalk_eq : Stmt := inClass (top 15) 1
abbrev s_KingWalk_length : Stmt := inClass (top 15) 2
abbrev s_KingWalk_ends : Stmt := inClass (top 15) 3
abbrev s_KingWalk_swept : Stmt := inClass (top 15) 4
abbrev s_king_most : Stmt := top 16
abbrev s_king_least : Stmt := top 17
abbrev s_king_round : Stmt := top 18
abbrev s_king_figures : Stmt := top 19
abbrev s_most_swept : Stmt := top 20
abbrev s_fewest_king_steps : Stmt := top 21
abbrev s_even_round : Stmt := top 22
abbrev s_odd_round : Stmt := top 23
abbrev s_l_begin : Stmt := top 25
abbrev s_l_draw : Stmt := top 26
abbrev s_l_pick : Stmt := top 27
abbrev s_l_number : Stmt := top 28
abbrev s_l_great : Stmt := top 29
abbrev s_l_ways : Stmt := top 30
abbrev s_l_swept_by : Stmt := top 31
abbrev s_l_is_round : Stmt := top 32
abbrev s_l_oblong : Stmt := top 33
abbrev s_law : Stmt := top 34
abbrev N__wall : List Str := ["k"]
abbrev P__wall : List Str := ["k"]
theorem sc__wall : FnScope N__wall P__wall (defScope s__wall) := ⟨rfl, rfl, rfl, by decide +kernel, rfl, by decide +kernel, by decide +kernel⟩
abbrev N_BadNumber_init : List Str := ["self", "value"]
abbrev P_BadNumber_init : List Str := ["self", "value"]
theorem sc_BadNumber_init : FnScope N_BadNumber_init P_BadNumber_init (defScope s_BadNumber_init) := ⟨rfl, rfl, rfl, by decide +kernel, rfl, by decide +kernel, by decide +kernel⟩
abbrev N_BadWord_init : List Str := ["self", "value"]
abbrev P_BadWord_init : List Str := ["self", "value"]
theorem sc_BadWord_init : FnScope N_BadWord_init P_BadWord_init (defScope s_BadWord_init) := ⟨rfl, rfl, rfl, by decide +kernel, rfl, by decide +kernel, by decide +kernel⟩
abbrev N_is_integer : List Str := ["value"]
abbrev P_is_integer : List Str := ["value"]
theorem sc_is_integer : FnScope N_is_integer P_is_integer (defScope s_is_integer) := ⟨rfl, rfl, rfl, by decide +kernel, rfl, by decide +kernel, by decide +kernel⟩
abbrev N_check_integer : List Str := ["value"]
abbrev P_check_integer : List Str := ["value"]
theorem sc_check_integer : FnScope N_check_integer P_check_integer (defScope s_check_integer) := ⟨rfl, rfl, rfl, by decide +kernel, rfl, by decide +kernel, by decide +kernel⟩
abbrev N_check_from : List Str := ["value", "least"]
abbrev P_check_from : List Str := ["value", "least"]
theorem sc_check_from : FnScope N_check_from P_check_from (defScope s_check_from) := ⟨rfl, rfl, rfl, by decide +kernel, rfl, by decide +kernel, by decide +kernel⟩
abbrev N_check_whole : List Str := ["value"]
abbrev P_check_whole : List Str := ["value"]
theorem sc_check_whole : FnScope N_check_whole P_check_whole (defScope s_check_whole) := ⟨rfl, rfl, rfl, by decide +kernel, rfl, by decide +kernel, by decide +kernel⟩
abbrev N_joined_runs : List Str := ["pairs", "runs", "last", "count", "letter", "times"]
abbrev P_joined_runs : List Str := ["pairs"]
theorem sc_joined_runs : FnScope N_joined_runs P_joined_runs (defScope s_joined_runs) := ⟨rfl, rfl, rfl, by decide +kernel, rfl, by decide +kernel, by decide +kernel⟩
abbrev N_KingWalk_init : List Str := ["self", "told", "direction", "times"]
abbrev P_KingWalk_init : List Str := ["self", "told"]
theorem sc_KingWalk_init : FnScope N_KingWalk_init P_KingWalk_init (defScope s_KingWalk_init) := ⟨rfl, rfl, rfl, by decide +kernel, rfl, by decide +kernel, by decide +kernel⟩
abbrev N_KingWalk_eq : List Str := ["self", "other"]
abbrev P_KingWalk_eq : List Str := ["self", "other"]
theorem sc_KingWalk_eq : FnScope N_KingWalk_eq P_KingWalk_eq (defScope s_KingWalk_eq) := ⟨rfl, rfl, rfl, by decide +kernel, rfl, by decide +kernel, by decide +kernel⟩
abbrev N_KingWalk_length : List Str := ["self"]
abbrev P_KingWalk_length : List Str := ["self"]
theorem sc_KingWalk_length : FnScope N_KingWalk_length P_KingWalk_length (defScope s_KingWalk_length) := ⟨rfl, rfl, rfl, by decide +kernel, rfl, by decide +kernel, by decide +kernel⟩
abbrev N_KingWalk_ends : List Str := ["self"]
abbrev P_KingWalk_ends : List Str := ["self"]
theorem sc_KingWalk_ends : FnScope N_KingWalk_ends P_KingWalk_ends (defScope s_KingWalk_ends) := ⟨rfl, rfl, rfl, by decide +kernel, rfl, by decide +kernel, by decide +kernel⟩
abbrev N_KingWalk_swept : List Str := ["self"]
abbrev P_KingWalk_swept : List Str := ["self"]
theorem sc_KingWalk_swept : FnScope N_KingWalk_swept P_KingWalk_swept (defScope s_KingWalk_swept) := ⟨rfl, rfl, rfl, by decide +kernel, rfl, by decide +kernel, by decide +kernel⟩
abbrev N_king_most : List Str := ["number"]
abbrev P_king_most : List Str := ["number"]
theorem sc_king_most : FnScope N_king_most P_king_most (defScope s_king_most) := ⟨rfl, rfl, rfl, by decide +kernel, rfl, by decide +kernel, by decide +kernel⟩
abbrev N_king_least : List Str := ["swept"]
abbrev P_king_least : List Str := ["swept"]
theorem sc_king_least : FnScope N_king_least P_king_least (defScope s_king_least) := ⟨rfl, rfl, rfl, by decide +kernel, rfl, by decide +kernel, by decide +kernel⟩
abbrev N_king_round : List Str := ["number", "swept", "fewest", "spare", "east", "west", "runs"]
abbrev P_king_round : List Str := ["number", "swept"]
theorem sc_king_round : FnScope N_king_round P_king_round (defScope s_king_round) := ⟨rfl, rfl, rfl, by decide +kernel, rfl, by decide +kernel, by decide +kernel⟩
abbrev N_king_figures : List Str := ["runs", "x", "y", "swept", "direction", "times", "across", "up"]
abbrev P_king_figures : List Str := ["runs"]
theorem sc_king_figures : FnScope N_king_figures P_king_figures (defScope s_king_figures) := ⟨rfl, rfl, rfl, by decide +kernel, rfl, by decide +kernel, by decide +kernel⟩
abbrev N_most_swept : List Str := ["number"]
abbrev P_most_swept : List Str := ["number"]
theorem sc_most_swept : FnScope N_most_swept P_most_swept (defScope s_most_swept) := ⟨rfl, rfl, rfl, by decide +kernel, rfl, by decide +kernel, by decide +kernel⟩
abbrev N_fewest_king_steps : List Str := ["swept"]
abbrev P_fewest_king_steps : List Str := ["swept"]
theorem sc_fewest_king_steps : FnScope N_fewest_king_steps P_fewest_king_steps (defScope s_fewest_king_steps) := ⟨rfl, rfl, rfl, by decide +kernel, rfl, by decide +kernel, by decide +kernel⟩
abbrev N_even_round : List Str := ["number", "swept", "east", "west", "width", "height", "less", "cut", "sooner", "later"]
abbrev P_even_round : List Str := ["number", "swept", "east", "west"]
theorem sc_even_round : FnScope N_even_round P_even_round (defScope s_even_round) := ⟨rfl, rfl, rfl, by decide +kernel, rfl, by decide +kernel, by decide +kernel⟩
abbrev N_odd_round : List Str := ["number", "swept", "east", "west", "width", "height", "less", "sooner", "later"]
abbrev P_odd_round : List Str := ["number", "swept", "east", "west"]
theorem sc_odd_round : FnScope N_odd_round P_odd_round (defScope s_odd_round) := ⟨rfl, rfl, rfl, by decide +kernel, rfl, by decide +kernel, by decide +kernel⟩
abbrev N_l_begin : List Str := ["_law_script"]
abbrev P_l_begin : List Str := ["_law_script"]
theorem sc_l_begin : FnScope N_l_begin P_l_begin (defScope s_l_begin) := ⟨rfl, rfl, rfl, by decide +kernel, rfl, by decide +kernel, by decide +kernel⟩
abbrev N_l_draw : List Str := ["_law_pen", "_law_span", "_law_digit", "_law_at", "_law_cell", "_law_n"]
abbrev P_l_draw : List Str := ["_law_pen", "_law_span"]
theorem sc_l_draw : FnScope N_l_draw P_l_draw (defScope s_l_draw) := ⟨rfl, rfl, rfl, by decide +kernel, rfl, by decide +kernel, by decide +kernel⟩
abbrev N_l_pick : List Str := ["_law_pen", "_law_some"]
abbrev P_l_pick : List Str := ["_law_pen", "_law_some"]
theorem sc_l_pick : FnScope N_l_pick P_l_pick (defScope s_l_pick) := ⟨rfl, rfl, rfl, by decide +kernel, rfl, by decide +kernel, by decide +kernel⟩
abbrev N_l_number : List Str := ["_law_pen", "_law_groups", "_law_found", "_law_k"]
abbrev P_l_number : List Str := ["_law_pen", "_law_groups"]
theorem sc_l_number : FnScope N_l_number P_l_number (defScope s_l_number) := ⟨rfl, rfl, rfl, by decide +kernel, rfl, by decide +kernel, by decide +kernel⟩
abbrev N_l_great : List Str := ["_law_pen"]
abbrev P_l_great : List Str := ["_law_pen"]
theorem sc_l_great : FnScope N_l_great P_l_great (defScope s_l_great) := ⟨rfl, rfl, rfl, by decide +kernel, rfl, by decide +kernel, by decide +kernel⟩
abbrev N_l_ways : List Str := []
abbrev P_l_ways : List Str := []
theorem sc_l_ways : FnScope N_l_ways P_l_ways (defScope s_l_ways) := ⟨rfl, rfl, rfl, by decide +kernel, rfl, by decide +kernel, by decide +kernel⟩
abbrev N_l_swept_by : List Str := ["_law_runs", "_law_x", "_law_y", "_law_found", "_law_way", "_law_times", "_law_wide", "_law_high"]
abbrev P_l_swept_by : List Str := ["_law_runs"]
theorem sc_l_swept_by : FnScope N_l_swept_by P_l_swept_by (defScope s_l_swept_by) := ⟨rfl, rfl, rfl, by decide +kernel, rfl, by decide +kernel, by decide +kernel⟩
abbrev N_l_is_round : List Str := ["_law_number_here", "_law_swept", "_law_told", "_law_way", "_law_times"]
abbrev P_l_is_round : List Str := ["_law_number_here", "_law_swept"]
theorem sc_l_is_round : FnScope N_l_is_round P_l_is_round (defScope s_l_is_round) := ⟨rfl, rfl, rfl, by decide +kernel, rfl, by decide +kernel, by decide +kernel⟩
abbrev N_l_oblong : List Str := ["_law_pen", "_law_wide", "_law_high", "_law_least", "_law_cut", "_law_runs", "_law_at", "_law_way", "_law_spare", "_law_k"]
abbrev P_l_oblong : List Str := ["_law_pen"]
theorem sc_l_oblong : FnScope N_l_oblong P_l_oblong (defScope s_l_oblong) := ⟨rfl, rfl, rfl, by decide +kernel, rfl, by decide +kernel, by decide +kernel⟩
abbrev N_law : List Str := ["_law_script", "_law_pen", "_law_turn", "_law_number_here", "_law_most", "_law_less", "_law_drawn", "_law_low", "_law_swept", "_law_fewest", "_law_runs", "_law_steps", "_law_spot", "_law_way", "_law_times"]
abbrev P_law : List Str := ["_law_script"]
theorem sc_law : FnScope N_law P_law (defScope s_law) := ⟨rfl, rfl, rfl, by decide +kernel, rfl, by decide +kernel, by decide +kernel⟩
/-- a def whose code object is known -/
structure FunC (K : PySem.W.Frag) (x qual : Str) (st : Stmt) (f : Addr) (fd : FuncData) (c : Addr) : Prop where
  ex : ∃ (oc : Value) (od : Option Addr) (kV doc pm : Value) (an : Option Addr) (ct : Value) (osl : Array (Option Value)),
    fd = PySem.W.fnOf x qual (defArgs st) (defBody st) (defScope st) .none kV doc pm an (.ref c) ct ∧ K.lookup f = some ⟨oc, od, .func fd, osl⟩ ∧ PySem.W.codeIn K (.ref c) qual = true
  kp : PySem.W.keepIn K (.ref f) = true
section
variable {P : Program} {w : World} {K : PySem.W.Frag} {mg : Str → Option Value} {base : Heap}
theorem FunC.okX {x qual : Str} {st : Stmt} {f : Addr} {fd : FuncData} {c : Addr} {N ps : List Str} {k : Nat} {sp : Sp} (F : FunC K x qual st f fd c) (S : FnScope N ps (defScope st)) (len : ∀ vs H Q E, sp vs H Q E → vs.length = ps.length)
    (hbody : ∀ (A : Around) (outer : List Env) (s : Shared) (H : Hp) (vs : List V) (Q : VK) (E : XK), Room k (A.deeper (envOfC qual (defScope st) s.heap.objs.size f (.ref c))) → sp vs H Q E →
      ∃ t, PSs (cxOf (L2.CX P w) P w K mg base N qual (defScope st) f (.ref c) A outer s H E) (defBody st) t ∧ t { nx := fun _ H' => Q .non H', rt := Q } (start N vs) H) : FnOk P w K mg base (L2.CX P w) (k + 1) f fd ps sp := by
  obtain ⟨oc, od, kV, doc, pm, an, ct, osl, rfl, lk, hcd⟩ := F.ex
  exact fn_of lk hcd S len fun A outer s H vs Q E hr hsp => hbody A outer s H vs Q E hr hsp
end
/-- what the top has left -/
structure Tx (K : PySem.W.Frag) (mg : Str → Option Value) where
  a__wall : Addr
  d__wall : FuncData
  F__wall : Fun K "_wall" "_wall" s__wall a__wall d__wall
  b__wall : Binds K d__wall P__wall []
  g__wall : mg "_wall" = some (.ref a__wall)
  a_is_integer : Addr
  d_is_integer : FuncData
  F_is_integer : Fun K "is_integer" "is_integer" s_is_integer a_is_integer d_is_integer
  b_is_integer : Binds K d_is_integer P_is_integer []
  g_is_integer : mg "is_integer" = some (.ref a_is_integer)
  a_check_integer : Addr
  d_check_integer : FuncData
  F_check_integer : Fun K "check_integer" "check_integer" s_check_integer a_check_integer d_check_integer
  b_check_integer : Binds K d_check_integer P_check_integer []
  g_check_integer : mg "check_integer" = some (.ref a_check_integer)
  a_check_from : Addr
  d_check_from : FuncData
  F_check_from : Fun K "check_from" "check_from" s_check_from a_check_from d_check_from
  b_check_from : Binds K d_check_from P_check_from []
  g_check_from : mg "check_from" = some (.ref a_check_from)
  a_check_whole : Addr
  d_check_whole : FuncData
  F_check_whole : Fun K "check_whole" "check_whole" s_check_whole a_check_whole d_check_whole
  b_check_whole : Binds K d_check_whole P_check_whole []
  g_check_whole : mg "check_whole" = some (.ref a_check_whole)
  a_joined_runs : Addr
  d_joined_runs : FuncData
  F_joined_runs : Fun K "joined_runs" "joined_runs" s_joined_runs a_joined_runs d_joined_runs
  b_joined_runs : Binds K d_joined_runs P_joined_runs []
  g_joined_runs : mg "joined_runs" = some (.ref a_joined_runs)
  a_king_most : Addr
  d_king_most : FuncData
  F_king_most : Fun K "king_most" "king_most" s_king_most a_king_most d_king_most
  b_king_most : Binds K d_king_most P_king_most []
  g_king_most : mg "king_most" = some (.ref a_king_most)
  a_king_least : Addr
  d_king_least : FuncData
  F_king_least : Fun K "king_least" "king_least" s_king_least a_king_least d_king_least
  b_king_least : Binds K d_king_least P_king_least []
  g_king_least : mg "king_least" = some (.ref a_king_least)
  a_king_round : Addr
  d_king_round : FuncData
  F_king_round : Fun K "king_round" "king_round" s_king_round a_king_round d_king_round
  b_king_round : Binds K d_king_round P_king_round []
  g_king_round : mg "king_round" = some (.ref a_king_round)
  a_king_figures : Addr
  d_king_figures : FuncData
  F_king_figures : Fun K "king_figures" "king_figures" s_king_figures a_king_figures d_king_figures
  b_king_figures : Binds K d_king_figures P_king_figures []
  g_king_figures : mg "king_figures" = some (.ref a_king_figures)
  a_most_swept : Addr
  d_most_swept : FuncData
  F_most_swept : Fun K "most_swept" "most_swept" s_most_swept a_most_swept d_most_swept
  b_most_swept : Binds K d_most_swept P_most_swept []
  g_most_swept : mg "most_swept" = some (.ref a_most_swept)
  a_fewest_king_steps : Addr
  d_fewest_king_steps : FuncData
  F_fewest_king_steps : Fun K "fewest_king_steps" "fewest_king_steps" s_fewest_king_steps a_fewest_king_steps d_fewest_king_steps
  b_fewest_king_steps : Binds K d_fewest_king_steps P_fewest_king_steps []
  g_fewest_king_steps : mg "fewest_king_steps" = some (.ref a_fewest_king_steps)
  a_even_round : Addr
  d_even_round : FuncData
  F_even_round : Fun K "even_round" "even_round" s_even_round a_even_round d_even_round
  b_even_round : Binds K d_even_round P_even_round []
  g_even_round : mg "even_round" = some (.ref a_even_round)
  a_odd_round : Addr
  d_odd_round : FuncData
  F_odd_round : Fun K "odd_round" "odd_round" s_odd_round a_odd_round d_odd_round
  b_odd_round : Binds K d_odd_round P_odd_round []
  g_odd_round : mg "odd_round" = some (.ref a_odd_round)
  a_l_begin : Addr
  d_l_begin : FuncData
  F_l_begin : Fun K "_law_begin" "_law_begin" s_l_begin a_l_begin d_l_begin
  b_l_begin : Binds K d_l_begin P_l_begin []
  g_l_begin : mg "_law_begin" = some (.ref a_l_begin)
  a_l_draw : Addr
  d_l_draw : FuncData
  F_l_draw : Fun K "_law_draw" "_law_draw" s_l_draw a_l_draw d_l_draw
  b_l_draw : Binds K d_l_draw P_l_draw []
  g_l_draw : mg "_law_draw" = some (.ref a_l_draw)
  a_l_pick : Addr
  d_l_pick : FuncData
  F_l_pick : Fun K "_law_pick" "_law_pick" s_l_pick a_l_pick d_l_pick
  b_l_pick : Binds K d_l_pick P_l_pick []
  g_l_pick : mg "_law_pick" = some (.ref a_l_pick)
  a_l_number : Addr
  d_l_number : FuncData
  F_l_number : Fun K "_law_number" "_law_number" s_l_number a_l_number d_l_number
  b_l_number : Binds K d_l_number P_l_number []
  g_l_number : mg "_law_number" = some (.ref a_l_number)
  a_l_great : Addr
  d_l_great : FuncData
  F_l_great : Fun K "_law_great" "_law_great" s_l_great a_l_great d_l_great
  b_l_great : Binds K d_l_great P_l_great []
  g_l_great : mg "_law_great" = some (.ref a_l_great)
  a_l_ways : Addr
  d_l_ways : FuncData
  F_l_ways : Fun K "_law_ways" "_law_ways" s_l_ways a_l_ways d_l_ways
  b_l_ways : Binds K d_l_ways P_l_ways []
  g_l_ways : mg "_law_ways" = some (.ref a_l_ways)
  a_l_swept_by : Addr
  d_l_swept_by : FuncData
  F_l_swept_by : Fun K "_law_swept_by" "_law_swept_by" s_l_swept_by a_l_swept_by d_l_swept_by
  b_l_swept_by : Binds K d_l_swept_by P_l_swept_by []
  g_l_swept_by : mg "_law_swept_by" = some (.ref a_l_swept_by)
  a_l_is_round : Addr
  d_l_is_round : FuncData
  F_l_is_round : Fun K "_law_is_round" "_law_is_round" s_l_is_round a_l_is_round d_l_is_round
  b_l_is_round : Binds K d_l_is_round P_l_is_round []
  g_l_is_round : mg "_law_is_round" = some (.ref a_l_is_round)
  a_l_oblong : Addr
  d_l_oblong : FuncData
  F_l_oblong : Fun K "_law_oblong" "_law_oblong" s_l_oblong a_l_oblong d_l_oblong
  b_l_oblong : Binds K d_l_oblong P_l_oblong []
  g_l_oblong : mg "_law_oblong" = some (.ref a_l_oblong)
  a_law : Addr
  d_law : FuncData
  F_law : Fun K "law" "law" s_law a_law d_law
  b_law : Binds K d_law P_law []
  g_law : mg "law" = some (.ref a_law)
  C_WalkError : Addr
  g_C_WalkError : mg "WalkError" = some (.ref C_WalkError)
  X_WalkError : OexC K C_WalkError
  Y_WalkError : XfC K C_WalkError
  C_BadNumber : Addr
  g_C_BadNumber : mg "BadNumber" = some (.ref C_BadNumber)
  a_BadNumber_init : Addr
  d_BadNumber_init : FuncData
  F_BadNumber_init : Fun K "__init__" "BadNumber.__init__" s_BadNumber_init a_BadNumber_init d_BadNumber_init
  b_BadNumber_init : Binds K d_BadNumber_init P_BadNumber_init []
  X_BadNumber : OexC K C_BadNumber
  Y_BadNumber : XfC K C_BadNumber
  ei_BadNumber : PySem.W.findIn K (.ref C_BadNumber) "__init__" = some (some (.ref a_BadNumber_init))
  et_BadNumber : PySem.W.typeIn K (.ref a_BadNumber_init) = some (.type "function")
  na_BadNumber_value : PySem.W.findIn K (.ref C_BadNumber) "value" = some none
  C_BadWord : Addr
  g_C_BadWord : mg "BadWord" = some (.ref C_BadWord)
  a_BadWord_init : Addr
  d_BadWord_init : FuncData
  F_BadWord_init : Fun K "__init__" "BadWord.__init__" s_BadWord_init a_BadWord_init d_BadWord_init
  b_BadWord_init : Binds K d_BadWord_init P_BadWord_init []
  X_BadWord : OexC K C_BadWord
  Y_BadWord : XfC K C_BadWord
  ei_BadWord : PySem.W.findIn K (.ref C_BadWord) "__init__" = some (some (.ref a_BadWord_init))
  et_BadWord : PySem.W.typeIn K (.ref a_BadWord_init) = some (.type "function")
  na_BadWord_value : PySem.W.findIn K (.ref C_BadWord) "value" = some none
  C_KingWalk : Addr
  g_C_KingWalk : mg "KingWalk" = some (.ref C_KingWalk)
  cl_KingWalk : Cls K C_KingWalk
  ca_KingWalk : PySem.W.findIn K (.ref C_KingWalk) "__class__" = some (some (.builtin "object.__class__"))
  cm_KingWalk : PySem.W.mroIn K C_KingWalk (.type "object") = some true
  na_KingWalk_runs : NoAttr K C_KingWalk "runs"
  a_KingWalk_init : Addr
  d_KingWalk_init : FuncData
  F_KingWalk_init : Fun K "__init__" "KingWalk.__init__" s_KingWalk_init a_KingWalk_init d_KingWalk_init
  b_KingWalk_init : Binds K d_KingWalk_init P_KingWalk_init []
  M_KingWalk : Mk K C_KingWalk a_KingWalk_init
  a_KingWalk_eq : Addr
  d_KingWalk_eq : FuncData
  F_KingWalk_eq : Fun K "__eq__" "KingWalk.__eq__" s_KingWalk_eq a_KingWalk_eq d_KingWalk_eq
  b_KingWalk_eq : Binds K d_KingWalk_eq P_KingWalk_eq []
  E_KingWalk : EqC K C_KingWalk a_KingWalk_eq
  a_KingWalk_length : Addr
  d_KingWalk_length : FuncData
  F_KingWalk_length : Fun K "length" "KingWalk.length" s_KingWalk_length a_KingWalk_length d_KingWalk_length
  b_KingWalk_length : Binds K d_KingWalk_length P_KingWalk_length []
  p_KingWalk_length : Addr
  Q_KingWalk_length : PropOf K C_KingWalk "length" p_KingWalk_length a_KingWalk_length
  a_KingWalk_ends : Addr
  d_KingWalk_ends : FuncData
  F_KingWalk_ends : Fun K "ends" "KingWalk.ends" s_KingWalk_ends a_KingWalk_ends d_KingWalk_ends
  b_KingWalk_ends : Binds K d_KingWalk_ends P_KingWalk_ends []
  M_KingWalk_ends : Meth K C_KingWalk "ends" a_KingWalk_ends
  a_KingWalk_swept : Addr
  d_KingWalk_swept : FuncData
  F_KingWalk_swept : Fun K "swept" "KingWalk.swept" s_KingWalk_swept a_KingWalk_swept d_KingWalk_swept
  b_KingWalk_swept : Binds K d_KingWalk_swept P_KingWalk_swept []
  M_KingWalk_swept : Meth K C_KingWalk "swept" a_KingWalk_swept
  cn : PySem.W.specialIn K (.builtin "object.__class__") "__get__" = some (some (.builtin "getset_descriptor.__get__"))
  ct : PySem.W.takesIn K (.builtin "object.__class__") = some true
  io_KingWalk_int : PySem.W.kitOne K (.ref C_KingWalk) (.type "int") = some false
  io_KingWalk_bool : PySem.W.kitOne K (.ref C_KingWalk) (.type "bool") = some false
  is_NoneType_KingWalk : PySem.W.kitOne K (.type "NoneType") (.ref C_KingWalk) = some false
  sb_NoneType_KingWalk : PySem.W.subIn K (.type "NoneType") (.ref C_KingWalk) = some false
  is_bool_KingWalk : PySem.W.kitOne K (.type "bool") (.ref C_KingWalk) = some false
  sb_bool_KingWalk : PySem.W.subIn K (.type "bool") (.ref C_KingWalk) = some false
  is_int_KingWalk : PySem.W.kitOne K (.type "int") (.ref C_KingWalk) = some false
  sb_int_KingWalk : PySem.W.subIn K (.type "int") (.ref C_KingWalk) = some false
  is_str_KingWalk : PySem.W.kitOne K (.type "str") (.ref C_KingWalk) = some false
  sb_str_KingWalk : PySem.W.subIn K (.type "str") (.ref C_KingWalk) = some false
  is_list_KingWalk : PySem.W.kitOne K (.type "list") (.ref C_KingWalk) = some false
  sb_list_KingWalk : PySem.W.subIn K (.type "list") (.ref C_KingWalk) = some false
  is_tuple_KingWalk : PySem.W.kitOne K (.type "tuple") (.ref C_KingWalk) = some false
  sb_tuple_KingWalk : PySem.W.subIn K (.type "tuple") (.ref C_KingWalk) = some false
  is_dict_KingWalk : PySem.W.kitOne K (.type "dict") (.ref C_KingWalk) = some false
  sb_dict_KingWalk : PySem.W.subIn K (.type "dict") (.ref C_KingWalk) = some false
  n_abs : mg "abs" = none
  n_bool : mg "bool" = none
  n_int : mg "int" = none
  n_isinstance : mg "isinstance" = none
  n_len : mg "len" = none
  n_list : mg "list" = none
  n_min : mg "min" = none
  n_property : mg "property" = none
  n_range : mg "range" = none
  n_str : mg "str" = none
  n_sum : mg "sum" = none
  n_tuple : mg "tuple" = none
  c_STRIDES : Addr
  ns_STRIDES : PySem.W.nsIn K mainGlobals "STRIDES" = some (some (.ref c_STRIDES))
  gc_STRIDES : mg "STRIDES" = some (.ref c_STRIDES)
  mi_isqrt : mg "isqrt" = some (.builtin "math.isqrt")
theorem tx_mk {K : PySem.W.Frag} {h : Heap} {mg : Str → Option Value} {fa : Addr} {f__wall : Addr} {od__wall an__wall : Option Addr} {sl__wall : Array (Option Value)} {oc__wall kV__wall dc__wall pm__wall cd__wall ct__wall : Value}
    {f_BadNumber_init : Addr} {od_BadNumber_init an_BadNumber_init : Option Addr} {sl_BadNumber_init : Array (Option Value)} {oc_BadNumber_init kV_BadNumber_init dc_BadNumber_init pm_BadNumber_init cd_BadNumber_init ct_BadNumber_init : Value}
    {f_BadWord_init : Addr} {od_BadWord_init an_BadWord_init : Option Addr} {sl_BadWord_init : Array (Option Value)} {oc_BadWord_init kV_BadWord_init dc_BadWord_init pm_BadWord_init cd_BadWord_init ct_BadWord_init : Value}
    {f_is_integer : Addr} {od_is_integer an_is_integer : Option Addr} {sl_is_integer : Array (Option Value)} {oc_is_integer kV_is_integer dc_is_integer pm_is_integer cd_is_integer ct_is_integer : Value}
    {f_check_integer : Addr} {od_check_integer an_check_integer : Option Addr} {sl_check_integer : Array (Option Value)} {oc_check_integer kV_check_integer dc_check_integer pm_check_integer cd_check_integer ct_check_integer : Value}
    {f_check_from : Addr} {od_check_from an_check_from : Option Addr} {sl_check_from : Array (Option Value)} {oc_check_from kV_check_from dc_check_from pm_check_from cd_check_from ct_check_from : Value}
    {f_check_whole : Addr} {od_check_whole an_check_whole : Option Addr} {sl_check_whole : Array (Option Value)} {oc_check_whole kV_check_whole dc_check_whole pm_check_whole cd_check_whole ct_check_whole : Value}
    {f_joined_runs : Addr} {od_joined_runs an_joined_runs : Option Addr} {sl_joined_runs : Array (Option Value)} {oc_joined_runs kV_joined_runs dc_joined_runs pm_joined_runs cd_joined_runs ct_joined_runs : Value}
    {f_KingWalk_init : Addr} {od_KingWalk_init an_KingWalk_init : Option Addr} {sl_KingWalk_init : Array (Option Value)} {oc_KingWalk_init kV_KingWalk_init dc_KingWalk_init pm_KingWalk_init cd_KingWalk_init ct_KingWalk_init : Value}
    {f_KingWalk_eq : Addr} {od_KingWalk_eq an_KingWalk_eq : Option Addr} {sl_KingWalk_eq : Array (Option Value)} {oc_KingWalk_eq kV_KingWalk_eq dc_KingWalk_eq pm_KingWalk_eq cd_KingWalk_eq ct_KingWalk_eq : Value}
    {f_KingWalk_length : Addr} {od_KingWalk_length an_KingWalk_length : Option Addr} {sl_KingWalk_length : Array (Option Value)} {oc_KingWalk_length kV_KingWalk_length dc_KingWalk_length pm_KingWalk_length cd_KingWalk_length ct_KingWalk_length : Value}
    {f_KingWalk_ends : Addr} {od_KingWalk_ends an_KingWalk_ends : Option Addr} {sl_KingWalk_ends : Array (Option Value)} {oc_KingWalk_ends kV_KingWalk_ends dc_KingWalk_ends pm_KingWalk_ends cd_KingWalk_ends ct_KingWalk_ends : Value}
    {f_KingWalk_swept : Addr} {od_KingWalk_swept an_KingWalk_swept : Option Addr} {sl_KingWalk_swept : Array (Option Value)} {oc_KingWalk_swept kV_KingWalk_swept dc_KingWalk_swept pm_KingWalk_swept cd_KingWalk_swept ct_KingWalk_swept : Value}
    {f_king_most : Addr} {od_king_most an_king_most : Option Addr} {sl_king_most : Array (Option Value)} {oc_king_most kV_king_most dc_king_most pm_king_most cd_king_most ct_king_most : Value}
    {f_king_least : Addr} {od_king_least an_king_least : Option Addr} {sl_king_least : Array (Option Value)} {oc_king_least kV_king_least dc_king_least pm_king_least cd_king_least ct_king_least : Value}
    {f_king_round : Addr} {od_king_round an_king_round : Option Addr} {sl_king_round : Array (Option Value)} {oc_king_round kV_king_round dc_king_round pm_king_round cd_king_round ct_king_round : Value}
    {f_king_figures : Addr} {od_king_figures an_king_figures : Option Addr} {sl_king_figures : Array (Option Value)} {oc_king_figures kV_king_figures dc_king_figures pm_king_figures cd_king_figures ct_king_figures : Value}
    {f_most_swept : Addr} {od_most_swept an_most_swept : Option Addr} {sl_most_swept : Array (Option Value)} {oc_most_swept kV_most_swept dc_most_swept pm_most_swept cd_most_swept ct_most_swept : Value}
    {f_fewest_king_steps : Addr} {od_fewest_king_steps an_fewest_king_steps : Option Addr} {sl_fewest_king_steps : Array (Option Value)} {oc_fewest_king_steps kV_fewest_king_steps dc_fewest_king_steps pm_fewest_king_steps cd_fewest_king_steps ct_fewest_king_steps : Value}
    {f_even_round : Addr} {od_even_round an_even_round : Option Addr} {sl_even_round : Array (Option Value)} {oc_even_round kV_even_round dc_even_round pm_even_round cd_even_round ct_even_round : Value}
    {f_odd_round : Addr} {od_odd_round an_odd_round : Option Addr} {sl_odd_round : Array (Option Value)} {oc_odd_round kV_odd_round dc_odd_round pm_odd_round cd_odd_round ct_odd_round : Value}
    {f_l_begin : Addr} {od_l_begin an_l_begin : Option Addr} {sl_l_begin : Array (Option Value)} {oc_l_begin kV_l_begin dc_l_begin pm_l_begin cd_l_begin ct_l_begin : Value}
    {f_l_draw : Addr} {od_l_draw an_l_draw : Option Addr} {sl_l_draw : Array (Option Value)} {oc_l_draw kV_l_draw dc_l_draw pm_l_draw cd_l_draw ct_l_draw : Value}
    {f_l_pick : Addr} {od_l_pick an_l_pick : Option Addr} {sl_l_pick : Array (Option Value)} {oc_l_pick kV_l_pick dc_l_pick pm_l_pick cd_l_pick ct_l_pick : Value}
    {f_l_number : Addr} {od_l_number an_l_number : Option Addr} {sl_l_number : Array (Option Value)} {oc_l_number kV_l_number dc_l_number pm_l_number cd_l_number ct_l_number : Value}
    {f_l_great : Addr} {od_l_great an_l_great : Option Addr} {sl_l_great : Array (Option Value)} {oc_l_great kV_l_great dc_l_great pm_l_great cd_l_great ct_l_great : Value}
    {f_l_ways : Addr} {od_l_ways an_l_ways : Option Addr} {sl_l_ways : Array (Option Value)} {oc_l_ways kV_l_ways dc_l_ways pm_l_ways cd_l_ways ct_l_ways : Value}
    {f_l_swept_by : Addr} {od_l_swept_by an_l_swept_by : Option Addr} {sl_l_swept_by : Array (Option Value)} {oc_l_swept_by kV_l_swept_by dc_l_swept_by pm_l_swept_by cd_l_swept_by ct_l_swept_by : Value}
    {f_l_is_round : Addr} {od_l_is_round an_l_is_round : Option Addr} {sl_l_is_round : Array (Option Value)} {oc_l_is_round kV_l_is_round dc_l_is_round pm_l_is_round cd_l_is_round ct_l_is_round : Value}
    {f_l_oblong : Addr} {od_l_oblong an_l_oblong : Option Addr} {sl_l_oblong : Array (Option Value)} {oc_l_oblong kV_l_oblong dc_l_oblong pm_l_oblong cd_l_oblong ct_l_oblong : Value}
    {f_law : Addr} {od_law an_law : Option Addr} {sl_law : Array (Option Value)} {oc_law kV_law dc_law pm_law cd_law ct_law : Value}
    {C_WalkError : Addr}
    {C_BadNumber : Addr}
    {C_BadWord : Addr}
    {C_KingWalk : Addr}
    {nm_WalkError qn_WalkError : Str} {NN_WalkError : Addr} {bs_WalkError sb_WalkError : List Value} {sn_WalkError : List Str} {ab_WalkError : Bool} {co_WalkError : Option Bool} {dd_WalkError : Option Addr} {m0_WalkError m1_WalkError m2_WalkError m3_WalkError m5_WalkError : Option Value}
    {nm_BadNumber qn_BadNumber : Str} {NN_BadNumber : Addr} {bs_BadNumber sb_BadNumber : List Value} {sn_BadNumber : List Str} {ab_BadNumber : Bool} {co_BadNumber : Option Bool} {dd_BadNumber : Option Addr} {m0_BadNumber m1_BadNumber m2_BadNumber m3_BadNumber m5_BadNumber : Option Value}
    {nm_BadWord qn_BadWord : Str} {NN_BadWord : Addr} {bs_BadWord sb_BadWord : List Value} {sn_BadWord : List Str} {ab_BadWord : Bool} {co_BadWord : Option Bool} {dd_BadWord : Option Addr} {m0_BadWord m1_BadWord m2_BadWord m3_BadWord m5_BadWord : Option Value}
    {p_KingWalk_length : Addr} {rs_KingWalk_length : List Value}
    {k_STRIDES : Addr}
    (X : K.In h) (G : h.Ns mainGlobals mg) (hfa : mg "law" = some (.ref fa))
    (g__wall : PySem.W.nsIn K mainGlobals "_wall" = some (some (.ref f__wall)))
    (l__wall : K.lookup f__wall = some ⟨oc__wall, od__wall, .func (PySem.W.fnOf "_wall" "_wall" (defArgs s__wall) (defBody s__wall) (defScope s__wall) .none kV__wall dc__wall pm__wall an__wall cd__wall ct__wall), sl__wall⟩)
    (c__wall : PySem.W.codeIn K cd__wall "_wall" = true)
    (k__wall : PySem.W.keepIn K (.ref f__wall) = true)
    (g_is_integer : PySem.W.nsIn K mainGlobals "is_integer" = some (some (.ref f_is_integer)))
    (l_is_integer : K.lookup f_is_integer = some ⟨oc_is_integer, od_is_integer, .func (PySem.W.fnOf "is_integer" "is_integer" (defArgs s_is_integer) (defBody s_is_integer) (defScope s_is_integer) .none kV_is_integer dc_is_integer pm_is_integer an_is_integer cd_is_integer ct_is_integer), sl_is_integer⟩)
    (c_is_integer : PySem.W.codeIn K cd_is_integer "is_integer" = true)
    (k_is_integer : PySem.W.keepIn K (.ref f_is_integer) = true)
    (g_check_integer : PySem.W.nsIn K mainGlobals "check_integer" = some (some (.ref f_check_integer)))
    (l_check_integer : K.lookup f_check_integer = some ⟨oc_check_integer, od_check_integer, .func (PySem.W.fnOf "check_integer" "check_integer" (defArgs s_check_integer) (defBody s_check_integer) (defScope s_check_integer) .none kV_check_integer dc_check_integer pm_check_integer an_check_integer cd_check_integer ct_check_integer), sl_check_integer⟩)
    (c_check_integer : PySem.W.codeIn K cd_check_integer "check_integer" = true)
    (k_check_integer : PySem.W.keepIn K (.ref f_check_integer) = true)
    (g_check_from : PySem.W.nsIn K mainGlobals "check_from" = some (some (.ref f_check_from)))
    (l_check_from : K.lookup f_check_from = some ⟨oc_check_from, od_check_from, .func (PySem.W.fnOf "check_from" "check_from" (defArgs s_check_from) (defBody s_check_from) (defScope s_check_from) .none kV_check_from dc_check_from pm_check_from an_check_from cd_check_from ct_check_from), sl_check_from⟩)
    (c_check_from : PySem.W.codeIn K cd_check_from "check_from" = true)
    (k_check_from : PySem.W.keepIn K (.ref f_check_from) = true)
    (g_check_whole : PySem.W.nsIn K mainGlobals "check_whole" = some (some (.ref f_check_whole)))
    (l_check_whole : K.lookup f_check_whole = some ⟨oc_check_whole, od_check_whole, .func (PySem.W.fnOf "check_whole" "check_whole" (defArgs s_check_whole) (defBody s_check_whole) (defScope s_check_whole) .none kV_check_whole dc_check_whole pm_check_whole an_check_whole cd_check_whole ct_check_whole), sl_check_whole⟩)
    (c_check_whole : PySem.W.codeIn K cd_check_whole "check_whole" = true)
    (k_check_whole : PySem.W.keepIn K (.ref f_check_whole) = true)
    (g_joined_runs : PySem.W.nsIn K mainGlobals "joined_runs" = some (some (.ref f_joined_runs)))
    (l_joined_runs : K.lookup f_joined_runs = some ⟨oc_joined_runs, od_joined_runs, .func (PySem.W.fnOf "joined_runs" "joined_runs" (defArgs s_joined_runs) (defBody s_joined_runs) (defScope s_joined_runs) .none kV_joined_runs dc_joined_runs pm_joined_runs an_joined_runs cd_joined_runs ct_joined_runs), sl_joined_runs⟩)
    (c_joined_runs : PySem.W.codeIn K cd_joined_runs "joined_runs" = true)
    (k_joined_runs : PySem.W.keepIn K (.ref f_joined_runs) = true)
    (g_king_most : PySem.W.nsIn K mainGlobals "king_most" = some (some (.ref f_king_most)))
    (l_king_most : K.lookup f_king_most = some ⟨oc_king_most, od_king_most, .func (PySem.W.fnOf "king_most" "king_most" (defArgs s_king_most) (defBody s_king_most) (defScope s_king_most) .none kV_king_most dc_king_most pm_king_most an_king_most cd_king_most ct_king_most), sl_king_most⟩)
    (c_king_most : PySem.W.codeIn K cd_king_most "king_most" = true)
    (k_king_most : PySem.W.keepIn K (.ref f_king_most) = true)
    (g_king_least : PySem.W.nsIn K mainGlobals "king_least" = some (some (.ref f_king_least)))
    (l_king_least : K.lookup f_king_least = some ⟨oc_king_least, od_king_least, .func (PySem.W.fnOf "king_least" "king_least" (defArgs s_king_least) (defBody s_king_least) (defScope s_king_least) .none kV_king_least dc_king_least pm_king_least an_king_least cd_king_least ct_king_least), sl_king_least⟩)
    (c_king_least : PySem.W.codeIn K cd_king_least "king_least" = true)
    (k_king_least : PySem.W.keepIn K (.ref f_king_least) = true)
    (g_king_round : PySem.W.nsIn K mainGlobals "king_round" = some (some (.ref f_king_round)))
    (l_king_round : K.lookup f_king_round = some ⟨oc_king_round, od_king_round, .func (PySem.W.fnOf "king_round" "king_round" (defArgs s_king_round) (defBody s_king_round) (defScope s_king_round) .none kV_king_round dc_king_round pm_king_round an_king_round cd_king_round ct_king_round), sl_king_round⟩)
    (c_king_round : PySem.W.codeIn K cd_king_round "king_round" = true)
    (k_king_round : PySem.W.keepIn K (.ref f_king_round) = true)
    (g_king_figures : PySem.W.nsIn K mainGlobals "king_figures" = some (some (.ref f_king_figures)))
    (l_king_figures : K.lookup f_king_figures = some ⟨oc_king_figures, od_king_figures, .func (PySem.W.fnOf "king_figures" "king_figures" (defArgs s_king_figures) (defBody s_king_figures) (defScope s_king_figures) .none kV_king_figures dc_king_figures pm_king_figures an_king_figures cd_king_figures ct_king_figures), sl_king_figures⟩)
    (c_king_figures : PySem.W.codeIn K cd_king_figures "king_figures" = true)
    (k_king_figures : PySem.W.keepIn K (.ref f_king_figures) = true)
    (g_most_swept : PySem.W.nsIn K mainGlobals "most_swept" = some (some (.ref f_most_swept)))
    (l_most_swept : K.lookup f_most_swept = some ⟨oc_most_swept, od_most_swept, .func (PySem.W.fnOf "most_swept" "most_swept" (defArgs s_most_swept) (defBody s_most_swept) (defScope s_most_swept) .none kV_most_swept dc_most_swept pm_most_swept an_most_swept cd_most_swept ct_most_swept), sl_most_swept⟩)
    (c_most_swept : PySem.W.codeIn K cd_most_swept "most_swept" = true)
    (k_most_swept : PySem.W.keepIn K (.ref f_most_swept) = true)
    (g_fewest_king_steps : PySem.W.nsIn K mainGlobals "fewest_king_steps" = some (some (.ref f_fewest_king_steps)))
    (l_fewest_king_steps : K.lookup f_fewest_king_steps = some ⟨oc_fewest_king_steps, od_fewest_king_steps, .func (PySem.W.fnOf "fewest_king_steps" "fewest_king_steps" (defArgs s_fewest_king_steps) (defBody s_fewest_king_steps) (defScope s_fewest_king_steps) .none kV_fewest_king_steps dc_fewest_king_steps pm_fewest_king_steps an_fewest_king_steps cd_fewest_king_steps ct_fewest_king_steps), sl_fewest_king_steps⟩)
    (c_fewest_king_steps : PySem.W.codeIn K cd_fewest_king_steps "fewest_king_steps" = true)
    (k_fewest_king_steps : PySem.W.keepIn K (.ref f_fewest_king_steps) = true)
    (g_even_round : PySem.W.nsIn K mainGlobals "even_round" = some (some (.ref f_even_round)))
    (l_even_round : K.lookup f_even_round = some ⟨oc_even_round, od_even_round, .func (PySem.W.fnOf "even_round" "even_round" (defArgs s_even_round) (defBody s_even_round) (defScope s_even_round) .none kV_even_round dc_even_round pm_even_round an_even_round cd_even_round ct_even_round), sl_even_round⟩)
    (c_even_round : PySem.W.codeIn K cd_even_round "even_round" = true)
    (k_even_round : PySem.W.keepIn K (.ref f_even_round) = true)
    (g_odd_round : PySem.W.nsIn K mainGlobals "odd_round" = some (some (.ref f_odd_round)))
    (l_odd_round : K.lookup f_odd_round = some ⟨oc_odd_round, od_odd_round, .func (PySem.W.fnOf "odd_round" "odd_round" (defArgs s_odd_round) (defBody s_odd_round) (defScope s_odd_round) .none kV_odd_round dc_odd_round pm_odd_round an_odd_round cd_odd_round ct_odd_round), sl_odd_round⟩)
    (c_odd_round : PySem.W.codeIn K cd_odd_round "odd_round" = true)
    (k_odd_round : PySem.W.keepIn K (.ref f_odd_round) = true)
    (g_l_begin : PySem.W.nsIn K mainGlobals "_law_begin" = some (some (.ref f_l_begin)))
    (l_l_begin : K.lookup f_l_begin = some ⟨oc_l_begin, od_l_begin, .func (PySem.W.fnOf "_law_begin" "_law_begin" (defArgs s_l_begin) (defBody s_l_begin) (defScope s_l_begin) .none kV_l_begin dc_l_begin pm_l_begin an_l_begin cd_l_begin ct_l_begin), sl_l_begin⟩)
    (c_l_begin : PySem.W.codeIn K cd_l_begin "_law_begin" = true)
    (k_l_begin : PySem.W.keepIn K (.ref f_l_begin) = true)
    (g_l_draw : PySem.W.nsIn K mainGlobals "_law_draw" = some (some (.ref f_l_draw)))
    (l_l_draw : K.lookup f_l_draw = some ⟨oc_l_draw, od_l_draw, .func (PySem.W.fnOf "_law_draw" "_law_draw" (defArgs s_l_draw) (defBody s_l_draw) (defScope s_l_draw) .none kV_l_draw dc_l_draw pm_l_draw an_l_draw cd_l_draw ct_l_draw), sl_l_draw⟩)
    (c_l_draw : PySem.W.codeIn K cd_l_draw "_law_draw" = true)
    (k_l_draw : PySem.W.keepIn K (.ref f_l_draw) = true)
    (g_l_pick : PySem.W.nsIn K mainGlobals "_law_pick" = some (some (.ref f_l_pick)))
    (l_l_pick : K.lookup f_l_pick = some ⟨oc_l_pick, od_l_pick, .func (PySem.W.fnOf "_law_pick" "_law_pick" (defArgs s_l_pick) (defBody s_l_pick) (defScope s_l_pick) .none kV_l_pick dc_l_pick pm_l_pick an_l_pick cd_l_pick ct_l_pick), sl_l_pick⟩)
    (c_l_pick : PySem.W.codeIn K cd_l_pick "_law_pick" = true)
    (k_l_pick : PySem.W.keepIn K (.ref f_l_pick) = true)
    (g_l_number : PySem.W.nsIn K mainGlobals "_law_number" = some (some (.ref f_l_number)))
    (l_l_number : K.lookup f_l_number = some ⟨oc_l_number, od_l_number, .func (PySem.W.fnOf "_law_number" "_law_number" (defArgs s_l_number) (defBody s_l_number) (defScope s_l_number) .none kV_l_number dc_l_number pm_l_number an_l_number cd_l_number ct_l_number), sl_l_number⟩)
    (c_l_number : PySem.W.codeIn K cd_l_number "_law_number" = true)
    (k_l_number : PySem.W.keepIn K (.ref f_l_number) = true)
    (g_l_great : PySem.W.nsIn K mainGlobals "_law_great" = some (some (.ref f_l_great)))
    (l_l_great : K.lookup f_l_great = some ⟨oc_l_great, od_l_great, .func (PySem.W.fnOf "_law_great" "_law_great" (defArgs s_l_great) (defBody s_l_great) (defScope s_l_great) .none kV_l_great dc_l_great pm_l_great an_l_great cd_l_great ct_l_great), sl_l_great⟩)
    (c_l_great : PySem.W.codeIn K cd_l_great "_law_great" = true)
    (k_l_great : PySem.W.keepIn K (.ref f_l_great) = true)
    (g_l_ways : PySem.W.nsIn K mainGlobals "_law_ways" = some (some (.ref f_l_ways)))
    (l_l_ways : K.lookup f_l_ways = some ⟨oc_l_ways, od_l_ways, .func (PySem.W.fnOf "_law_ways" "_law_ways" (defArgs s_l_ways) (defBody s_l_ways) (defScope s_l_ways) .none kV_l_ways dc_l_ways pm_l_ways an_l_ways cd_l_ways ct_l_ways), sl_l_ways⟩)
    (c_l_ways : PySem.W.codeIn K cd_l_ways "_law_ways" = true)
    (k_l_ways : PySem.W.keepIn K (.ref f_l_ways) = true)
    (g_l_swept_by : PySem.W.nsIn K mainGlobals "_law_swept_by" = some (some (.ref f_l_swept_by)))
    (l_l_swept_by : K.lookup f_l_swept_by = some ⟨oc_l_swept_by, od_l_swept_by, .func (PySem.W.fnOf "_law_swept_by" "_law_swept_by" (defArgs s_l_swept_by) (defBody s_l_swept_by) (defScope s_l_swept_by) .none kV_l_swept_by dc_l_swept_by pm_l_swept_by an_l_swept_by cd_l_swept_by ct_l_swept_by), sl_l_swept_by⟩)
    (c_l_swept_by : PySem.W.codeIn K cd_l_swept_by "_law_swept_by" = true)
    (k_l_swept_by : PySem.W.keepIn K (.ref f_l_swept_by) = true)
    (g_l_is_round : PySem.W.nsIn K mainGlobals "_law_is_round" = some (some (.ref f_l_is_round)))
    (l_l_is_round : K.lookup f_l_is_round = some ⟨oc_l_is_round, od_l_is_round, .func (PySem.W.fnOf "_law_is_round" "_law_is_round" (defArgs s_l_is_round) (defBody s_l_is_round) (defScope s_l_is_round) .none kV_l_is_round dc_l_is_round pm_l_is_round an_l_is_round cd_l_is_round ct_l_is_round), sl_l_is_round⟩)
    (c_l_is_round : PySem.W.codeIn K cd_l_is_round "_law_is_round" = true)
    (k_l_is_round : PySem.W.keepIn K (.ref f_l_is_round) = true)
    (g_l_oblong : PySem.W.nsIn K mainGlobals "_law_oblong" = some (some (.ref f_l_oblong)))
    (l_l_oblong : K.lookup f_l_oblong = some ⟨oc_l_oblong, od_l_oblong, .func (PySem.W.fnOf "_law_oblong" "_law_oblong" (defArgs s_l_oblong) (defBody s_l_oblong) (defScope s_l_oblong) .none kV_l_oblong dc_l_oblong pm_l_oblong an_l_oblong cd_l_oblong ct_l_oblong), sl_l_oblong⟩)
    (c_l_oblong : PySem.W.codeIn K cd_l_oblong "_law_oblong" = true)
    (k_l_oblong : PySem.W.keepIn K (.ref f_l_oblong) = true)
    (g_law : PySem.W.nsIn K mainGlobals "law" = some (some (.ref f_law)))
    (l_law : K.lookup f_law = some ⟨oc_law, od_law, .func (PySem.W.fnOf "law" "law" (defArgs s_law) (defBody s_law) (defScope s_law) .none kV_law dc_law pm_law an_law cd_law ct_law), sl_law⟩)
    (c_law : PySem.W.codeIn K cd_law "law" = true)
    (k_law : PySem.W.keepIn K (.ref f_law) = true)
    (g_C_WalkError : PySem.W.nsIn K mainGlobals "WalkError" = some (some (.ref C_WalkError)))
    (sa_WalkError : PySem.W.findIn K (.ref C_WalkError) "__setattr__" = some (some (.builtin "object.__setattr__")))
    (ex_WalkError : PySem.W.subIn K (.ref C_WalkError) (.type "BaseException") = some true)
    (ty_WalkError : PySem.W.typeIn K (.ref C_WalkError) = some (.type "type"))
    (kc_WalkError : PySem.W.keepIn K (.ref C_WalkError) = true)
    (ga_WalkError : PySem.W.findIn K (.ref C_WalkError) "__getattribute__" = some (some (.builtin "BaseException.__getattribute__")))
    (gg_WalkError : PySem.W.findIn K (.ref C_WalkError) "__getattr__" = some none)
    (hd_WalkError : PySem.W.hasDictIn K C_WalkError = true)
    (ic_WalkError : PySem.W.isClsIn K C_WalkError = true)
    (x_WalkError : K.lookup C_WalkError = some (excClassObj nm_WalkError qn_WalkError C_WalkError NN_WalkError bs_WalkError [.type "ValueError", .type "Exception", .type "BaseException", .type "object"] true sn_WalkError sb_WalkError ab_WalkError co_WalkError dd_WalkError m0_WalkError m1_WalkError m2_WalkError m3_WalkError m5_WalkError "ValueError.__new__"))
    (g_C_BadNumber : PySem.W.nsIn K mainGlobals "BadNumber" = some (some (.ref C_BadNumber)))
    (m_BadNumber_init : PySem.W.findIn K (.ref C_BadNumber) "__init__" = some (some (.ref f_BadNumber_init)))
    (i_BadNumber_init : PySem.W.isFn K (.ref f_BadNumber_init) = true)
    (l_BadNumber_init : K.lookup f_BadNumber_init = some ⟨oc_BadNumber_init, od_BadNumber_init, .func (PySem.W.fnOf "__init__" "BadNumber.__init__" (defArgs s_BadNumber_init) (defBody s_BadNumber_init) (defScope s_BadNumber_init) .none kV_BadNumber_init dc_BadNumber_init pm_BadNumber_init an_BadNumber_init cd_BadNumber_init ct_BadNumber_init), sl_BadNumber_init⟩)
    (c_BadNumber_init : PySem.W.codeIn K cd_BadNumber_init "BadNumber.__init__" = true)
    (k_BadNumber_init : PySem.W.keepIn K (.ref f_BadNumber_init) = true)
    (sa_BadNumber : PySem.W.findIn K (.ref C_BadNumber) "__setattr__" = some (some (.builtin "object.__setattr__")))
    (ex_BadNumber : PySem.W.subIn K (.ref C_BadNumber) (.type "BaseException") = some true)
    (ty_BadNumber : PySem.W.typeIn K (.ref C_BadNumber) = some (.type "type"))
    (kc_BadNumber : PySem.W.keepIn K (.ref C_BadNumber) = true)
    (ga_BadNumber : PySem.W.findIn K (.ref C_BadNumber) "__getattribute__" = some (some (.builtin "BaseException.__getattribute__")))
    (gg_BadNumber : PySem.W.findIn K (.ref C_BadNumber) "__getattr__" = some none)
    (hd_BadNumber : PySem.W.hasDictIn K C_BadNumber = true)
    (ic_BadNumber : PySem.W.isClsIn K C_BadNumber = true)
    (x_BadNumber : K.lookup C_BadNumber = some (excClassObj nm_BadNumber qn_BadNumber C_BadNumber NN_BadNumber bs_BadNumber [.ref C_WalkError, .type "ValueError", .type "Exception", .type "BaseException", .type "object"] true sn_BadNumber sb_BadNumber ab_BadNumber co_BadNumber dd_BadNumber m0_BadNumber m1_BadNumber m2_BadNumber m3_BadNumber m5_BadNumber "ValueError.__new__"))
    (na_BadNumber_value : PySem.W.findIn K (.ref C_BadNumber) "value" = some none)
    (g_C_BadWord : PySem.W.nsIn K mainGlobals "BadWord" = some (some (.ref C_BadWord)))
    (m_BadWord_init : PySem.W.findIn K (.ref C_BadWord) "__init__" = some (some (.ref f_BadWord_init)))
    (i_BadWord_init : PySem.W.isFn K (.ref f_BadWord_init) = true)
    (l_BadWord_init : K.lookup f_BadWord_init = some ⟨oc_BadWord_init, od_BadWord_init, .func (PySem.W.fnOf "__init__" "BadWord.__init__" (defArgs s_BadWord_init) (defBody s_BadWord_init) (defScope s_BadWord_init) .none kV_BadWord_init dc_BadWord_init pm_BadWord_init an_BadWord_init cd_BadWord_init ct_BadWord_init), sl_BadWord_init⟩)
    (c_BadWord_init : PySem.W.codeIn K cd_BadWord_init "BadWord.__init__" = true)
    (k_BadWord_init : PySem.W.keepIn K (.ref f_BadWord_init) = true)
    (sa_BadWord : PySem.W.findIn K (.ref C_BadWord) "__setattr__" = some (some (.builtin "object.__setattr__")))
    (ex_BadWord : PySem.W.subIn K (.ref C_BadWord) (.type "BaseException") = some true)
    (ty_BadWord : PySem.W.typeIn K (.ref C_BadWord) = some (.type "type"))
    (kc_BadWord : PySem.W.keepIn K (.ref C_BadWord) = true)
    (ga_BadWord : PySem.W.findIn K (.ref C_BadWord) "__getattribute__" = some (some (.builtin "BaseException.__getattribute__")))
    (gg_BadWord : PySem.W.findIn K (.ref C_BadWord) "__getattr__" = some none)
    (hd_BadWord : PySem.W.hasDictIn K C_BadWord = true)
    (ic_BadWord : PySem.W.isClsIn K C_BadWord = true)
    (x_BadWord : K.lookup C_BadWord = some (excClassObj nm_BadWord qn_BadWord C_BadWord NN_BadWord bs_BadWord [.ref C_WalkError, .type "ValueError", .type "Exception", .type "BaseException", .type "object"] true sn_BadWord sb_BadWord ab_BadWord co_BadWord dd_BadWord m0_BadWord m1_BadWord m2_BadWord m3_BadWord m5_BadWord "ValueError.__new__"))
    (na_BadWord_value : PySem.W.findIn K (.ref C_BadWord) "value" = some none)
    (g_C_KingWalk : PySem.W.nsIn K mainGlobals "KingWalk" = some (some (.ref C_KingWalk)))
    (pg_KingWalk : PySem.W.plainGet K C_KingWalk Str.empty = true)
    (hd_KingWalk : PySem.W.hasDictIn K C_KingWalk = true)
    (po_KingWalk : PySem.W.plainOver K C_KingWalk = true)
    (sa_KingWalk : PySem.W.findIn K (.ref C_KingWalk) "__setattr__" = some (some (.builtin "object.__setattr__")))
    (ca_KingWalk : PySem.W.findIn K (.ref C_KingWalk) "__class__" = some (some (.builtin "object.__class__")))
    (cm_KingWalk : PySem.W.mroIn K C_KingWalk (.type "object") = some true)
    (na_KingWalk_runs : PySem.W.findIn K (.ref C_KingWalk) "runs" = some none)
    (m_KingWalk_init : PySem.W.findIn K (.ref C_KingWalk) "__init__" = some (some (.ref f_KingWalk_init)))
    (i_KingWalk_init : PySem.W.isFn K (.ref f_KingWalk_init) = true)
    (l_KingWalk_init : K.lookup f_KingWalk_init = some ⟨oc_KingWalk_init, od_KingWalk_init, .func (PySem.W.fnOf "__init__" "KingWalk.__init__" (defArgs s_KingWalk_init) (defBody s_KingWalk_init) (defScope s_KingWalk_init) .none kV_KingWalk_init dc_KingWalk_init pm_KingWalk_init an_KingWalk_init cd_KingWalk_init ct_KingWalk_init), sl_KingWalk_init⟩)
    (c_KingWalk_init : PySem.W.codeIn K cd_KingWalk_init "KingWalk.__init__" = true)
    (k_KingWalk_init : PySem.W.keepIn K (.ref f_KingWalk_init) = true)
    (mk_KingWalk : PySem.W.makesIn K C_KingWalk = true)
    (kc_KingWalk : PySem.W.keepIn K (.ref C_KingWalk) = true)
    (m_KingWalk_eq : PySem.W.findIn K (.ref C_KingWalk) "__eq__" = some (some (.ref f_KingWalk_eq)))
    (i_KingWalk_eq : PySem.W.isFn K (.ref f_KingWalk_eq) = true)
    (l_KingWalk_eq : K.lookup f_KingWalk_eq = some ⟨oc_KingWalk_eq, od_KingWalk_eq, .func (PySem.W.fnOf "__eq__" "KingWalk.__eq__" (defArgs s_KingWalk_eq) (defBody s_KingWalk_eq) (defScope s_KingWalk_eq) .none kV_KingWalk_eq dc_KingWalk_eq pm_KingWalk_eq an_KingWalk_eq cd_KingWalk_eq ct_KingWalk_eq), sl_KingWalk_eq⟩)
    (c_KingWalk_eq : PySem.W.codeIn K cd_KingWalk_eq "KingWalk.__eq__" = true)
    (k_KingWalk_eq : PySem.W.keepIn K (.ref f_KingWalk_eq) = true)
    (ne_KingWalk : PySem.W.findIn K (.ref C_KingWalk) "__ne__" = some (some (.builtin "object.__ne__")))
    (m_KingWalk_length : PySem.W.findIn K (.ref C_KingWalk) "length" = some (some (.ref p_KingWalk_length)))
    (pg_KingWalk_length : PySem.W.specialIn K (.ref p_KingWalk_length) "__get__" = some (some (.builtin "property.__get__")))
    (pt_KingWalk_length : PySem.W.takesIn K (.ref p_KingWalk_length) = some true)
    (pr_KingWalk_length : PySem.W.recIn K p_KingWalk_length "property" = some (.ref f_KingWalk_length :: rs_KingWalk_length))
    (l_KingWalk_length : K.lookup f_KingWalk_length = some ⟨oc_KingWalk_length, od_KingWalk_length, .func (PySem.W.fnOf "length" "KingWalk.length" (defArgs s_KingWalk_length) (defBody s_KingWalk_length) (defScope s_KingWalk_length) .none kV_KingWalk_length dc_KingWalk_length pm_KingWalk_length an_KingWalk_length cd_KingWalk_length ct_KingWalk_length), sl_KingWalk_length⟩)
    (c_KingWalk_length : PySem.W.codeIn K cd_KingWalk_length "KingWalk.length" = true)
    (k_KingWalk_length : PySem.W.keepIn K (.ref f_KingWalk_length) = true)
    (m_KingWalk_ends : PySem.W.findIn K (.ref C_KingWalk) "ends" = some (some (.ref f_KingWalk_ends)))
    (i_KingWalk_ends : PySem.W.isFn K (.ref f_KingWalk_ends) = true)
    (l_KingWalk_ends : K.lookup f_KingWalk_ends = some ⟨oc_KingWalk_ends, od_KingWalk_ends, .func (PySem.W.fnOf "ends" "KingWalk.ends" (defArgs s_KingWalk_ends) (defBody s_KingWalk_ends) (defScope s_KingWalk_ends) .none kV_KingWalk_ends dc_KingWalk_ends pm_KingWalk_ends an_KingWalk_ends cd_KingWalk_ends ct_KingWalk_ends), sl_KingWalk_ends⟩)
    (c_KingWalk_ends : PySem.W.codeIn K cd_KingWalk_ends "KingWalk.ends" = true)
    (k_KingWalk_ends : PySem.W.keepIn K (.ref f_KingWalk_ends) = true)
    (m_KingWalk_swept : PySem.W.findIn K (.ref C_KingWalk) "swept" = some (some (.ref f_KingWalk_swept)))
    (i_KingWalk_swept : PySem.W.isFn K (.ref f_KingWalk_swept) = true)
    (l_KingWalk_swept : K.lookup f_KingWalk_swept = some ⟨oc_KingWalk_swept, od_KingWalk_swept, .func (PySem.W.fnOf "swept" "KingWalk.swept" (defArgs s_KingWalk_swept) (defBody s_KingWalk_swept) (defScope s_KingWalk_swept) .none kV_KingWalk_swept dc_KingWalk_swept pm_KingWalk_swept an_KingWalk_swept cd_KingWalk_swept ct_KingWalk_swept), sl_KingWalk_swept⟩)
    (c_KingWalk_swept : PySem.W.codeIn K cd_KingWalk_swept "KingWalk.swept" = true)
    (k_KingWalk_swept : PySem.W.keepIn K (.ref f_KingWalk_swept) = true)
    (cn : PySem.W.specialIn K (.builtin "object.__class__") "__get__" = some (some (.builtin "getset_descriptor.__get__")))
    (ct : PySem.W.takesIn K (.builtin "object.__class__") = some true)
    (io_KingWalk_int : PySem.W.kitOne K (.ref C_KingWalk) (.type "int") = some false)
    (io_KingWalk_bool : PySem.W.kitOne K (.ref C_KingWalk) (.type "bool") = some false)
    (is_NoneType_KingWalk : PySem.W.kitOne K (.type "NoneType") (.ref C_KingWalk) = some false)
    (sb_NoneType_KingWalk : PySem.W.subIn K (.type "NoneType") (.ref C_KingWalk) = some false)
    (is_bool_KingWalk : PySem.W.kitOne K (.type "bool") (.ref C_KingWalk) = some false)
    (sb_bool_KingWalk : PySem.W.subIn K (.type "bool") (.ref C_KingWalk) = some false)
    (is_int_KingWalk : PySem.W.kitOne K (.type "int") (.ref C_KingWalk) = some false)
    (sb_int_KingWalk : PySem.W.subIn K (.type "int") (.ref C_KingWalk) = some false)
    (is_str_KingWalk : PySem.W.kitOne K (.type "str") (.ref C_KingWalk) = some false)
    (sb_str_KingWalk : PySem.W.subIn K (.type "str") (.ref C_KingWalk) = some false)
    (is_list_KingWalk : PySem.W.kitOne K (.type "list") (.ref C_KingWalk) = some false)
    (sb_list_KingWalk : PySem.W.subIn K (.type "list") (.ref C_KingWalk) = some false)
    (is_tuple_KingWalk : PySem.W.kitOne K (.type "tuple") (.ref C_KingWalk) = some false)
    (sb_tuple_KingWalk : PySem.W.subIn K (.type "tuple") (.ref C_KingWalk) = some false)
    (is_dict_KingWalk : PySem.W.kitOne K (.type "dict") (.ref C_KingWalk) = some false)
    (sb_dict_KingWalk : PySem.W.subIn K (.type "dict") (.ref C_KingWalk) = some false)
    (n_abs : PySem.W.nsIn K mainGlobals "abs" = some none)
    (n_bool : PySem.W.nsIn K mainGlobals "bool" = some none)
    (n_int : PySem.W.nsIn K mainGlobals "int" = some none)
    (n_isinstance : PySem.W.nsIn K mainGlobals "isinstance" = some none)
    (n_len : PySem.W.nsIn K mainGlobals "len" = some none)
    (n_list : PySem.W.nsIn K mainGlobals "list" = some none)
    (n_min : PySem.W.nsIn K mainGlobals "min" = some none)
    (n_property : PySem.W.nsIn K mainGlobals "property" = some none)
    (n_range : PySem.W.nsIn K mainGlobals "range" = some none)
    (n_str : PySem.W.nsIn K mainGlobals "str" = some none)
    (n_sum : PySem.W.nsIn K mainGlobals "sum" = some none)
    (n_tuple : PySem.W.nsIn K mainGlobals "tuple" = some none)
    (gc_STRIDES : PySem.W.nsIn K mainGlobals "STRIDES" = some (some (.ref k_STRIDES)))
    (mi_isqrt : PySem.W.nsIn K mainGlobals "isqrt" = some (some (.builtin "math.isqrt"))) {goal : Prop} (kk : ∀ T : Tx K mg, T.a_law = fa → goal) : goal := by
  refine kk { a__wall := (f__wall), d__wall := (_), F__wall := (fun_mk (st := s__wall) l__wall c__wall k__wall), b__wall := ((fun_mk (st := s__wall) l__wall c__wall k__wall).binds (ps := P__wall) fun _ _ _ _ _ _ us hl => match us, hl with | [_], _ => rfl), g__wall := (PySem.W.mg_of X G g__wall), a_is_integer := (f_is_integer), d_is_integer := (_), F_is_integer := (fun_mk (st := s_is_integer) l_is_integer c_is_integer k_is_integer), b_is_integer := ((fun_mk (st := s_is_integer) l_is_integer c_is_integer k_is_integer).binds (ps := P_is_integer) fun _ _ _ _ _ _ us hl => match us, hl with | [_], _ => rfl), g_is_integer := (PySem.W.mg_of X G g_is_integer), a_check_integer := (f_check_integer), d_check_integer := (_), F_check_integer := (fun_mk (st := s_check_integer) l_check_integer c_check_integer k_check_integer), b_check_integer := ((fun_mk (st := s_check_integer) l_check_integer c_check_integer k_check_integer).binds (ps := P_check_integer) fun _ _ _ _ _ _ us hl => match us, hl with | [_], _ => rfl), g_check_integer := (PySem.W.mg_of X G g_check_integer), a_check_from := (f_check_from), d_check_from := (_), F_check_from := (fun_mk (st := s_check_from) l_check_from c_check_from k_check_from), b_check_from := ((fun_mk (st := s_check_from) l_check_from c_check_from k_check_from).binds (ps := P_check_from) fun _ _ _ _ _ _ us hl => match us, hl with | [_, _], _ => rfl), g_check_from := (PySem.W.mg_of X G g_check_from), a_check_whole := (f_check_whole), d_check_whole := (_), F_check_whole := (fun_mk (st := s_check_whole) l_check_whole c_check_whole k_check_whole), b_check_whole := ((fun_mk (st := s_check_whole) l_check_whole c_check_whole k_check_whole).binds (ps := P_check_whole) fun _ _ _ _ _ _ us hl => match us, hl with | [_], _ => rfl), g_check_whole := (PySem.W.mg_of X G g_check_whole), a_joined_runs := (f_joined_runs), d_joined_runs := (_), F_joined_runs := (fun_mk (st := s_joined_runs) l_joined_runs c_joined_runs k_joined_runs), b_joined_runs := ((fun_mk (st := s_joined_runs) l_joined_runs c_joined_runs k_joined_runs).binds (ps := P_joined_runs) fun _ _ _ _ _ _ us hl => match us, hl with | [_], _ => rfl), g_joined_runs := (PySem.W.mg_of X G g_joined_runs), a_king_most := (f_king_most), d_king_most := (_), F_king_most := (fun_mk (st := s_king_most) l_king_most c_king_most k_king_most), b_king_most := ((fun_mk (st := s_king_most) l_king_most c_king_most k_king_most).binds (ps := P_king_most) fun _ _ _ _ _ _ us hl => match us, hl with | [_], _ => rfl), g_king_most := (PySem.W.mg_of X G g_king_most), a_king_least := (f_king_least), d_king_least := (_), F_king_least := (fun_mk (st := s_king_least) l_king_least c_king_least k_king_least), b_king_least := ((fun_mk (st := s_king_least) l_king_least c_king_least k_king_least).binds (ps := P_king_least) fun _ _ _ _ _ _ us hl => match us, hl with | [_], _ => rfl), g_king_least := (PySem.W.mg_of X G g_king_least), a_king_round := (f_king_round), d_king_round := (_), F_king_round := (fun_mk (st := s_king_round) l_king_round c_king_round k_king_round), b_king_round := ((fun_mk (st := s_king_round) l_king_round c_king_round k_king_round).binds (ps := P_king_round) fun _ _ _ _ _ _ us hl => match us, hl with | [_, _], _ => rfl), g_king_round := (PySem.W.mg_of X G g_king_round), a_king_figures := (f_king_figures), d_king_figures := (_), F_king_figures := (fun_mk (st := s_king_figures) l_king_figures c_king_figures k_king_figures), b_king_figures := ((fun_mk (st := s_king_figures) l_king_figures c_king_figures k_king_figures).binds (ps := P_king_figures) fun _ _ _ _ _ _ us hl => match us, hl with | [_], _ => rfl), g_king_figures := (PySem.W.mg_of X G g_king_figures), a_most_swept := (f_most_swept), d_most_swept := (_), F_most_swept := (fun_mk (st := s_most_swept) l_most_swept c_most_swept k_most_swept), b_most_swept := ((fun_mk (st := s_most_swept) l_most_swept c_most_swept k_most_swept).binds (ps := P_most_swept) fun _ _ _ _ _ _ us hl => match us, hl with | [_], _ => rfl), g_most_swept := (PySem.W.mg_of X G g_most_swept), a_fewest_king_steps := (f_fewest_king_steps), d_fewest_king_steps := (_), F_fewest_king_steps := (fun_mk (st := s_fewest_king_steps) l_fewest_king_steps c_fewest_king_steps k_fewest_king_steps), b_fewest_king_steps := ((fun_mk (st := s_fewest_king_steps) l_fewest_king_steps c_fewest_king_steps k_fewest_king_steps).binds (ps := P_fewest_king_steps) fun _ _ _ _ _ _ us hl => match us, hl with | [_], _ => rfl), g_fewest_king_steps := (PySem.W.mg_of X G g_fewest_king_steps), a_even_round := (f_even_round), d_even_round := (_), F_even_round := (fun_mk (st := s_even_round) l_even_round c_even_round k_even_round), b_even_round := ((fun_mk (st := s_even_round) l_even_round c_even_round k_even_round).binds (ps := P_even_round) fun _ _ _ _ _ _ us hl => match us, hl with | [_, _, _, _], _ => rfl), g_even_round := (PySem.W.mg_of X G g_even_round), a_odd_round := (f_odd_round), d_odd_round := (_), F_odd_round := (fun_mk (st := s_odd_round) l_odd_round c_odd_round k_odd_round), b_odd_round := ((fun_mk (st := s_odd_round) l_odd_round c_odd_round k_odd_round).binds (ps := P_odd_round) fun _ _ _ _ _ _ us hl => match us, hl with | [_, _, _, _], _ => rfl), g_odd_round := (PySem.W.mg_of X G g_odd_round), a_l_begin := (f_l_begin), d_l_begin := (_), F_l_begin := (fun_mk (st := s_l_begin) l_l_begin c_l_begin k_l_begin), b_l_begin := ((fun_mk (st := s_l_begin) l_l_begin c_l_begin k_l_begin).binds (ps := P_l_begin) fun _ _ _ _ _ _ us hl => match us, hl with | [_], _ => rfl), g_l_begin := (PySem.W.mg_of X G g_l_begin), a_l_draw := (f_l_draw), d_l_draw := (_), F_l_draw := (fun_mk (st := s_l_draw) l_l_draw c_l_draw k_l_draw), b_l_draw := ((fun_mk (st := s_l_draw) l_l_draw c_l_draw k_l_draw).binds (ps := P_l_draw) fun _ _ _ _ _ _ us hl => match us, hl with | [_, _], _ => rfl), g_l_draw := (PySem.W.mg_of X G g_l_draw), a_l_pick := (f_l_pick), d_l_pick := (_), F_l_pick := (fun_mk (st := s_l_pick) l_l_pick c_l_pick k_l_pick), b_l_pick := ((fun_mk (st := s_l_pick) l_l_pick c_l_pick k_l_pick).binds (ps := P_l_pick) fun _ _ _ _ _ _ us hl => match us, hl with | [_, _], _ => rfl), g_l_pick := (PySem.W.mg_of X G g_l_pick), a_l_number := (f_l_number), d_l_number := (_), F_l_number := (fun_mk (st := s_l_number) l_l_number c_l_number k_l_number), b_l_number := ((fun_mk (st := s_l_number) l_l_number c_l_number k_l_number).binds (ps := P_l_number) fun _ _ _ _ _ _ us hl => match us, hl with | [_, _], _ => rfl), g_l_number := (PySem.W.mg_of X G g_l_number), a_l_great := (f_l_great), d_l_great := (_), F_l_great := (fun_mk (st := s_l_great) l_l_great c_l_great k_l_great), b_l_great := ((fun_mk (st := s_l_great) l_l_great c_l_great k_l_great).binds (ps := P_l_great) fun _ _ _ _ _ _ us hl => match us, hl with | [_], _ => rfl), g_l_great := (PySem.W.mg_of X G g_l_great), a_l_ways := (f_l_ways), d_l_ways := (_), F_l_ways := (fun_mk (st := s_l_ways) l_l_ways c_l_ways k_l_ways), b_l_ways := ((fun_mk (st := s_l_ways) l_l_ways c_l_ways k_l_ways).binds (ps := P_l_ways) fun _ _ _ _ _ _ us hl => match us, hl with | [], _ => rfl), g_l_ways := (PySem.W.mg_of X G g_l_ways), a_l_swept_by := (f_l_swept_by), d_l_swept_by := (_), F_l_swept_by := (fun_mk (st := s_l_swept_by) l_l_swept_by c_l_swept_by k_l_swept_by), b_l_swept_by := ((fun_mk (st := s_l_swept_by) l_l_swept_by c_l_swept_by k_l_swept_by).binds (ps := P_l_swept_by) fun _ _ _ _ _ _ us hl => match us, hl with | [_], _ => rfl), g_l_swept_by := (PySem.W.mg_of X G g_l_swept_by), a_l_is_round := (f_l_is_round), d_l_is_round := (_), F_l_is_round := (fun_mk (st := s_l_is_round) l_l_is_round c_l_is_round k_l_is_round), b_l_is_round := ((fun_mk (st := s_l_is_round) l_l_is_round c_l_is_round k_l_is_round).binds (ps := P_l_is_round) fun _ _ _ _ _ _ us hl => match us, hl with | [_, _], _ => rfl), g_l_is_round := (PySem.W.mg_of X G g_l_is_round), a_l_oblong := (f_l_oblong), d_l_oblong := (_), F_l_oblong := (fun_mk (st := s_l_oblong) l_l_oblong c_l_oblong k_l_oblong), b_l_oblong := ((fun_mk (st := s_l_oblong) l_l_oblong c_l_oblong k_l_oblong).binds (ps := P_l_oblong) fun _ _ _ _ _ _ us hl => match us, hl with | [_], _ => rfl), g_l_oblong := (PySem.W.mg_of X G g_l_oblong), a_law := (f_law), d_law := (_), F_law := (fun_mk (st := s_law) l_law c_law k_law), b_law := ((fun_mk (st := s_law) l_law c_law k_law).binds (ps := P_law) fun _ _ _ _ _ _ us hl => match us, hl with | [_], _ => rfl), g_law := (PySem.W.mg_of X G g_law), C_WalkError := (C_WalkError), g_C_WalkError := (PySem.W.mg_of X G g_C_WalkError), X_WalkError := (⟨⟨nm_WalkError, qn_WalkError, NN_WalkError, bs_WalkError, _, sn_WalkError, sb_WalkError, ab_WalkError, co_WalkError, dd_WalkError, m0_WalkError, m1_WalkError, m2_WalkError, m3_WalkError, m5_WalkError, x_WalkError, rfl⟩, sa_WalkError, ex_WalkError, ty_WalkError, kc_WalkError⟩), Y_WalkError := (⟨ga_WalkError, gg_WalkError, ex_WalkError, hd_WalkError⟩), C_BadNumber := (C_BadNumber), g_C_BadNumber := (PySem.W.mg_of X G g_C_BadNumber), a_BadNumber_init := (f_BadNumber_init), d_BadNumber_init := (_), F_BadNumber_init := (fun_mk (st := s_BadNumber_init) l_BadNumber_init c_BadNumber_init k_BadNumber_init), b_BadNumber_init := ((fun_mk (st := s_BadNumber_init) l_BadNumber_init c_BadNumber_init k_BadNumber_init).binds (ps := P_BadNumber_init) fun _ _ _ _ _ _ us hl => match us, hl with | [_, _], _ => rfl), X_BadNumber := (⟨⟨nm_BadNumber, qn_BadNumber, NN_BadNumber, bs_BadNumber, _, sn_BadNumber, sb_BadNumber, ab_BadNumber, co_BadNumber, dd_BadNumber, m0_BadNumber, m1_BadNumber, m2_BadNumber, m3_BadNumber, m5_BadNumber, x_BadNumber, rfl⟩, sa_BadNumber, ex_BadNumber, ty_BadNumber, kc_BadNumber⟩), Y_BadNumber := (⟨ga_BadNumber, gg_BadNumber, ex_BadNumber, hd_BadNumber⟩), ei_BadNumber := (m_BadNumber_init), et_BadNumber := (beq_iff_eq.mp i_BadNumber_init), na_BadNumber_value := (na_BadNumber_value), C_BadWord := (C_BadWord), g_C_BadWord := (PySem.W.mg_of X G g_C_BadWord), a_BadWord_init := (f_BadWord_init), d_BadWord_init := (_), F_BadWord_init := (fun_mk (st := s_BadWord_init) l_BadWord_init c_BadWord_init k_BadWord_init), b_BadWord_init := ((fun_mk (st := s_BadWord_init) l_BadWord_init c_BadWord_init k_BadWord_init).binds (ps := P_BadWord_init) fun _ _ _ _ _ _ us hl => match us, hl with | [_, _], _ => rfl), X_BadWord := (⟨⟨nm_BadWord, qn_BadWord, NN_BadWord, bs_BadWord, _, sn_BadWord, sb_BadWord, ab_BadWord, co_BadWord, dd_BadWord, m0_BadWord, m1_BadWord, m2_BadWord, m3_BadWord, m5_BadWord, x_BadWord, rfl⟩, sa_BadWord, ex_BadWord, ty_BadWord, kc_BadWord⟩), Y_BadWord := (⟨ga_BadWord, gg_BadWord, ex_BadWord, hd_BadWord⟩), ei_BadWord := (m_BadWord_init), et_BadWord := (beq_iff_eq.mp i_BadWord_init), na_BadWord_value := (na_BadWord_value), C_KingWalk := (C_KingWalk), g_C_KingWalk := (PySem.W.mg_of X G g_C_KingWalk), cl_KingWalk := (⟨pg_KingWalk, hd_KingWalk, po_KingWalk, sa_KingWalk⟩), ca_KingWalk := (ca_KingWalk), cm_KingWalk := (cm_KingWalk), na_KingWalk_runs := (na_KingWalk_runs), a_KingWalk_init := (f_KingWalk_init), d_KingWalk_init := (_), F_KingWalk_init := (fun_mk (st := s_KingWalk_init) l_KingWalk_init c_KingWalk_init k_KingWalk_init), b_KingWalk_init := ((fun_mk (st := s_KingWalk_init) l_KingWalk_init c_KingWalk_init k_KingWalk_init).binds (ps := P_KingWalk_init) fun _ _ _ _ _ _ us hl => match us, hl with | [_, _], _ => rfl), M_KingWalk := (⟨mk_KingWalk, m_KingWalk_init, i_KingWalk_init, kc_KingWalk⟩), a_KingWalk_eq := (f_KingWalk_eq), d_KingWalk_eq := (_), F_KingWalk_eq := (fun_mk (st := s_KingWalk_eq) l_KingWalk_eq c_KingWalk_eq k_KingWalk_eq), b_KingWalk_eq := ((fun_mk (st := s_KingWalk_eq) l_KingWalk_eq c_KingWalk_eq k_KingWalk_eq).binds (ps := P_KingWalk_eq) fun _ _ _ _ _ _ us hl => match us, hl with | [_, _], _ => rfl), E_KingWalk := (⟨m_KingWalk_eq, i_KingWalk_eq, ne_KingWalk, cm_KingWalk⟩), a_KingWalk_length := (f_KingWalk_length), d_KingWalk_length := (_), F_KingWalk_length := (fun_mk (st := s_KingWalk_length) l_KingWalk_length c_KingWalk_length k_KingWalk_length), b_KingWalk_length := ((fun_mk (st := s_KingWalk_length) l_KingWalk_length c_KingWalk_length k_KingWalk_length).binds (ps := P_KingWalk_length) fun _ _ _ _ _ _ us hl => match us, hl with | [_], _ => rfl), p_KingWalk_length := (p_KingWalk_length), Q_KingWalk_length := (⟨m_KingWalk_length, pg_KingWalk_length, pt_KingWalk_length, ⟨_, pr_KingWalk_length⟩⟩), a_KingWalk_ends := (f_KingWalk_ends), d_KingWalk_ends := (_), F_KingWalk_ends := (fun_mk (st := s_KingWalk_ends) l_KingWalk_ends c_KingWalk_ends k_KingWalk_ends), b_KingWalk_ends := ((fun_mk (st := s_KingWalk_ends) l_KingWalk_ends c_KingWalk_ends k_KingWalk_ends).binds (ps := P_KingWalk_ends) fun _ _ _ _ _ _ us hl => match us, hl with | [_], _ => rfl), M_KingWalk_ends := (⟨m_KingWalk_ends, i_KingWalk_ends, k_KingWalk_ends⟩), a_KingWalk_swept := (f_KingWalk_swept), d_KingWalk_swept := (_), F_KingWalk_swept := (fun_mk (st := s_KingWalk_swept) l_KingWalk_swept c_KingWalk_swept k_KingWalk_swept), b_KingWalk_swept := ((fun_mk (st := s_KingWalk_swept) l_KingWalk_swept c_KingWalk_swept k_KingWalk_swept).binds (ps := P_KingWalk_swept) fun _ _ _ _ _ _ us hl => match us, hl with | [_], _ => rfl), M_KingWalk_swept := (⟨m_KingWalk_swept, i_KingWalk_swept, k_KingWalk_swept⟩), cn := (cn), ct := (ct), io_KingWalk_int := (io_KingWalk_int), io_KingWalk_bool := (io_KingWalk_bool), is_NoneType_KingWalk := (is_NoneType_KingWalk), sb_NoneType_KingWalk := (sb_NoneType_KingWalk), is_bool_KingWalk := (is_bool_KingWalk), sb_bool_KingWalk := (sb_bool_KingWalk), is_int_KingWalk := (is_int_KingWalk), sb_int_KingWalk := (sb_int_KingWalk), is_str_KingWalk := (is_str_KingWalk), sb_str_KingWalk := (sb_str_KingWalk), is_list_KingWalk := (is_list_KingWalk), sb_list_KingWalk := (sb_list_KingWalk), is_tuple_KingWalk := (is_tuple_KingWalk), sb_tuple_KingWalk := (sb_tuple_KingWalk), is_dict_KingWalk := (is_dict_KingWalk), sb_dict_KingWalk := (sb_dict_KingWalk), n_abs := (PySem.W.mg_none_of X G n_abs), n_bool := (PySem.W.mg_none_of X G n_bool), n_int := (PySem.W.mg_none_of X G n_int), n_isinstance := (PySem.W.mg_none_of X G n_isinstance), n_len := (PySem.W.mg_none_of X G n_len), n_list := (PySem.W.mg_none_of X G n_list), n_min := (PySem.W.mg_none_of X G n_min), n_property := (PySem.W.mg_none_of X G n_property), n_range := (PySem.W.mg_none_of X G n_range), n_str := (PySem.W.mg_none_of X G n_str), n_sum := (PySem.W.mg_none_of X G n_sum), n_tuple := (PySem.W.mg_none_of X G n_tuple), c_STRIDES := (k_STRIDES), ns_STRIDES := (gc_STRIDES), gc_STRIDES := (PySem.W.mg_of X G gc_STRIDES), mi_isqrt := (PySem.W.mg_of X G mi_isqrt) } ?_
  have e := hfa.symm.trans (PySem.W.mg_of X G g_law)
  cases e
  rfl
abbrev L_STRIDES : List (Str × List V) := [("e", [V.int (1), V.int (0)]), ("ne", [V.int (1), V.int (1)]), ("n", [V.int (0), V.int (1)]), ("nw", [V.int (-1), V.int (1)]), ("w", [V.int (-1), V.int (0)]), ("sw", [V.int (-1), V.int (-1)]), ("s", [V.int (0), V.int (-1)]), ("se", [V.int (1), V.int (-1)])]
theorem cd_mk_STRIDES {K : PySem.W.Frag} {w : World} {h : Heap} (KX : K.In h) {a b0 b1 b2 b3 b4 b5 b6 b7 : Addr} {es : Array DictEntry} {ep : Nat} {t0 t1 t2 t3 t4 t5 t6 t7 : Tok} {od0 od1 od2 od3 od4 od5 od6 od7 : Option Addr} {its0 its1 its2 its3 its4 its5 its6 its7 : Array Value} {n0 n1 n2 n3 n4 n5 n6 n7 : Nat} {sl0 sl1 sl2 sl3 sl4 sl5 sl6 sl7 : Array (Option Value)}
    (x : PySem.W.nsIn K mainGlobals "STRIDES" = some (some (.ref a))) (y : K.lookup a = some ⟨.type "dict", none, .dict es ep, #[]⟩) (z : es.toList = [⟨hashStr w "e", .str "e" t0, .ref b0⟩, ⟨hashStr w "ne", .str "ne" t1, .ref b1⟩, ⟨hashStr w "n", .str "n" t2, .ref b2⟩, ⟨hashStr w "nw", .str "nw" t3, .ref b3⟩, ⟨hashStr w "w", .str "w" t4, .ref b4⟩, ⟨hashStr w "sw", .str "sw" t5, .ref b5⟩, ⟨hashStr w "s", .str "s" t6, .ref b6⟩, ⟨hashStr w "se", .str "se" t7, .ref b7⟩]) (sm : (a == sysModules) = false)
    (l0 : K.lookup b0 = some ⟨.type "tuple", od0, .seq its0 n0, sl0⟩) (v0 : its0.toList.map absV = ([V.int (1), V.int (0)]).map some) (l1 : K.lookup b1 = some ⟨.type "tuple", od1, .seq its1 n1, sl1⟩) (v1 : its1.toList.map absV = ([V.int (1), V.int (1)]).map some) (l2 : K.lookup b2 = some ⟨.type "tuple", od2, .seq its2 n2, sl2⟩) (v2 : its2.toList.map absV = ([V.int (0), V.int (1)]).map some) (l3 : K.lookup b3 = some ⟨.type "tuple", od3, .seq its3 n3, sl3⟩) (v3 : its3.toList.map absV = ([V.int (-1), V.int (1)]).map some) (l4 : K.lookup b4 = some ⟨.type "tuple", od4, .seq its4 n4, sl4⟩) (v4 : its4.toList.map absV = ([V.int (-1), V.int (0)]).map some) (l5 : K.lookup b5 = some ⟨.type "tuple", od5, .seq its5 n5, sl5⟩) (v5 : its5.toList.map absV = ([V.int (-1), V.int (-1)]).map some) (l6 : K.lookup b6 = some ⟨.type "tuple", od6, .seq its6 n6, sl6⟩) (v6 : its6.toList.map absV = ([V.int (0), V.int (-1)]).map some) (l7 : K.lookup b7 = some ⟨.type "tuple", od7, .seq its7 n7, sl7⟩) (v7 : its7.toList.map absV = ([V.int (1), V.int (-1)]).map some)
    : CDict K w "STRIDES" L_STRIDES := ⟨fun a' ha' => by
  rw [x] at ha'
  cases ha'
  exact ⟨es, ep, y, by rw [z]; exact ⟨⟨t0, b0, rfl, fun _ => sqT_const l0 v0 (by decide)⟩, ⟨t1, b1, rfl, fun _ => sqT_const l1 v1 (by decide)⟩, ⟨t2, b2, rfl, fun _ => sqT_const l2 v2 (by decide)⟩, ⟨t3, b3, rfl, fun _ => sqT_const l3 v3 (by decide)⟩, ⟨t4, b4, rfl, fun _ => sqT_const l4 v4 (by decide)⟩, ⟨t5, b5, rfl, fun _ => sqT_const l5 v5 (by decide)⟩, ⟨t6, b6, rfl, fun _ => sqT_const l6 v6 (by decide)⟩, ⟨t7, b7, rfl, fun _ => sqT_const l7 v7 (by decide)⟩, trivial⟩, sm⟩⟩
theorem cd_use_STRIDES {K : PySem.W.Frag} {w : World} {goal : Prop} {h : Heap} (KX : K.In h) {a b0 b1 b2 b3 b4 b5 b6 b7 : Addr} {es : Array DictEntry} {ep : Nat} {t0 t1 t2 t3 t4 t5 t6 t7 : Tok} {od0 od1 od2 od3 od4 od5 od6 od7 : Option Addr} {its0 its1 its2 its3 its4 its5 its6 its7 : Array Value} {n0 n1 n2 n3 n4 n5 n6 n7 : Nat} {sl0 sl1 sl2 sl3 sl4 sl5 sl6 sl7 : Array (Option Value)}
    (x : PySem.W.nsIn K mainGlobals "STRIDES" = some (some (.ref a))) (y : K.lookup a = some ⟨.type "dict", none, .dict es ep, #[]⟩) (z : es.toList = [⟨hashStr w "e", .str "e" t0, .ref b0⟩, ⟨hashStr w "ne", .str "ne" t1, .ref b1⟩, ⟨hashStr w "n", .str "n" t2, .ref b2⟩, ⟨hashStr w "nw", .str "nw" t3, .ref b3⟩, ⟨hashStr w "w", .str "w" t4, .ref b4⟩, ⟨hashStr w "sw", .str "sw" t5, .ref b5⟩, ⟨hashStr w "s", .str "s" t6, .ref b6⟩, ⟨hashStr w "se", .str "se" t7, .ref b7⟩]) (sm : (a == sysModules) = false)
    (l0 : K.lookup b0 = some ⟨.type "tuple", od0, .seq its0 n0, sl0⟩) (v0 : its0.toList.map absV = ([V.int (1), V.int (0)]).map some) (l1 : K.lookup b1 = some ⟨.type "tuple", od1, .seq its1 n1, sl1⟩) (v1 : its1.toList.map absV = ([V.int (1), V.int (1)]).map some) (l2 : K.lookup b2 = some ⟨.type "tuple", od2, .seq its2 n2, sl2⟩) (v2 : its2.toList.map absV = ([V.int (0), V.int (1)]).map some) (l3 : K.lookup b3 = some ⟨.type "tuple", od3, .seq its3 n3, sl3⟩) (v3 : its3.toList.map absV = ([V.int (-1), V.int (1)]).map some) (l4 : K.lookup b4 = some ⟨.type "tuple", od4, .seq its4 n4, sl4⟩) (v4 : its4.toList.map absV = ([V.int (-1), V.int (0)]).map some) (l5 : K.lookup b5 = some ⟨.type "tuple", od5, .seq its5 n5, sl5⟩) (v5 : its5.toList.map absV = ([V.int (-1), V.int (-1)]).map some) (l6 : K.lookup b6 = some ⟨.type "tuple", od6, .seq its6 n6, sl6⟩) (v6 : its6.toList.map absV = ([V.int (0), V.int (-1)]).map some) (l7 : K.lookup b7 = some ⟨.type "tuple", od7, .seq its7 n7, sl7⟩) (v7 : its7.toList.map absV = ([V.int (1), V.int (-1)]).map some) (f : CDict K w "STRIDES" L_STRIDES → goal) : goal := f (cd_mk_STRIDES KX x y z sm l0 v0 l1 v1 l2 v2 l3 v3 l4 v4 l5 v5 l6 v6 l7 v7)
end AW

set_option linter.all false
set_option maxRecDepth 100000
set_option maxHeartbeats 8000000
namespace AW
open PySem PySem.Spec PyProof.Rows L2
section
variable {K : PySem.W.Frag} {mg : Str → Option Value}
theorem Same.laid {H : Hp} {p : Addr} {o : HO} (h : H p = none) : Same H (upd H p o) := fun b u e => by rw [upd_ne (ne_of_none e h)]; exact e
theorem Same.after {H H1 : Hp} {p : Addr} {o : HO} (s : Same H H1) (h : H1 p = none) : Same H (upd H1 p o) := s.trans (Same.laid h)
def intV : V → Bool
  | .int _ => true
  | _ => false
def TyT (t : Value) : Prop := t = .type "NoneType" ∨ t = .type "bool" ∨ t = .type "int" ∨ t = .type "str" ∨ t = .type "list" ∨ t = .type "tuple" ∨ t = .type "dict"
def isI (t : Value) : Bool := t == .type "int" || t == .type "bool"
def isB (t : Value) : Bool := t == .type "bool"
theorem kit_int {t : Value} (h : TyT t) : PySem.W.kitOne K t (.type "int") = some (isI t) := by
  rcases h with rfl | rfl | rfl | rfl | rfl | rfl | rfl
  all_goals exact kit_ty (by decide +kernel)
theorem kit_bool {t : Value} (h : TyT t) : PySem.W.kitOne K t (.type "bool") = some (isB t) := by
  rcases h with rfl | rfl | rfl | rfl | rfl | rfl | rfl
  all_goals exact kit_ty (by decide +kernel)
end
section
variable {P : Program} {w : World} {K : PySem.W.Frag} {mg : Str → Option Value} {base : Heap}
/-- what an own error of a base def lets out, by the def's own wish -/
theorem passE {X : Cx} {E : XK} {E₁ : Value → Shared → Prop} (hs : X.stack = X.env :: X.outer := by rfl) (hf : X.env.frame = some X.env.locals := by rfl) (hex : X.ex = [] := by rfl)
    (hx : X.xe = fun e s' => wpAny (model X.prog X.w) X.A (leaving X.env e) (fun _ s'' => L2.CX X.prog X.w X.outer X.H_0 X.s_0 E e s'') E₁ s' := by rfl) : Passes (L2.CX X.prog X.w) X E :=
  passes_call (takes_of hs hf hex hx) (fun _ _ _ _ h => h)
def sp_einit (C : Addr) (f : Str) : Sp := fun vs H Q _ => ∃ (a : Addr) (v : V), vs = [.ref a, v] ∧ H a = some (exo a C none) ∧ ∀ dx, H dx = none → dx ≠ a → Q .non (upd (upd H dx (exd dx [(f, v)])) a (exo a C (some dx)))
theorem ok_BadNumber_init (T : Tx K mg) : FnOk P w K mg base (L2.CX P w) 1 T.a_BadNumber_init T.d_BadNumber_init P_BadNumber_init (sp_einit T.C_BadNumber "value") := by
  refine T.F_BadNumber_init.okX sc_BadNumber_init (fun vs H Q E h => ?_) (fun cdv A outer s H vs Q E hr h => ?_)
  · obtain ⟨a, v, rfl, _⟩ := h
    rfl
  · obtain ⟨a, v, rfl, ha, k⟩ := h
    refine ⟨_, pss_one (ps_ost (pv 0) (pv 1)), ?_⟩
    exact ⟨_, rfl, _, rfl, a, T.C_BadNumber, rfl, T.X_BadNumber, T.na_BadNumber_value, .inl ⟨ha, fun dx hd ne => k dx hd ne⟩⟩
/-- the wish for an error with one field: behind it the heap has its dict -/
def Err (H : Hp) (E : XK) (C : Addr) (f : Str) (v : V) : Prop := ∀ (d : Addr) (H' : Hp), Same H H' → H d = none → H' d = some (.xd [(f, v)]) → E (.ref C) (some d) H'
theorem Err.mono {H H1 : Hp} {E : XK} {C : Addr} {f : Str} {v : V} (s : Same H H1) (e : Err H E C f v) : Err H1 E C f v := fun d H' s' n h => e d H' (s.trans s') (s.free n) h
/-- what raise C(v) asks, by the init's promise -/
theorem mk_einit {C : Addr} {f : Str} {σ : L2.St} {H : Hp} {Q : XK} {ta : TA} {v : V} (h : ta σ H fun vs H1 => vs = [v] ∧ H1 = H) (k : Err H Q C f v) (hta : ∀ (Q Q' : List V → Hp → Prop), (∀ vs H, Q vs H → Q' vs H) → ta σ H Q → ta σ H Q') : tMkO C (sp_einit C f) [] ta σ H Q := by
  refine hta _ _ ?_ h
  rintro vs H1 ⟨rfl, rfl⟩
  refine ⟨by show 1 ≤ 1000; decide, fun a ha => ⟨a, v, rfl, upd_same, fun dx hd ne => ⟨rfl, dx, [(f, v)], upd_same, ?_, ?_, ?_⟩⟩⟩
  · rw [upd_ne ne, upd_same]
  · rw [upd_ne ne] at hd; exact hd
  · have hdx : H1 dx = none := by rw [upd_ne ne] at hd; exact hd
    refine k dx _ (fun b o e => ?_) hdx upd_same
    have nb : b ≠ dx := ne_of_none e hdx
    have na : b ≠ a := ne_of_none e ha
    rw [upd_ne nb, del_ne na, upd_ne na, upd_ne nb, upd_ne na]
    exact e
end
end AW

set_option linter.all false
set_option maxRecDepth 100000
set_option maxHeartbeats 8000000
namespace AW
open PySem PySem.Spec PyProof.Rows L2
variable [Tbs]
theorem ifT {c : Bool} {A B : Prop} (hc : c = true) (h : A) : if c = true then A else B := by
  rw [if_pos hc]
  exact h
theorem ifN {c : Bool} {A B : Prop} (hc : c = false) (h : B) : if c = true then A else B := by
  rw [hc, if_neg Bool.false_ne_true]
  exact h
/-! ### sizes of ints -/
def Bd (k : Nat) (i : Int) : Prop := i.natAbs < 2 ^ k
theorem Bd.mono {k m : Nat} {i : Int} (h : Bd k i) (l : k ≤ m) : Bd m i := Nat.lt_of_lt_of_le h (Nat.pow_le_pow_right (by decide) l)
theorem Bd.neg {k : Nat} {i : Int} (h : Bd k i) : Bd k (-i) := by unfold Bd; rw [Int.natAbs_neg]; exact h
theorem Bd.add {k : Nat} {i j : Int} (h : Bd k i) (g : Bd k j) : Bd (k + 1) (i + j) := by
  unfold Bd at *
  rw [Nat.pow_succ]
  omega
theorem Bd.sub {k : Nat} {i j : Int} (h : Bd k i) (g : Bd k j) : Bd (k + 1) (i - j) := by
  unfold Bd at *
  rw [Nat.pow_succ]
  omega
theorem Bd.mul {k m : Nat} {i j : Int} (h : Bd k i) (g : Bd m j) : Bd (k + m) (i * j) := wide_lt h g
abbrev BIG : Nat := 400000
theorem big_mul {i j : Int} (h : Bd BIG i) (g : Bd BIG j) : CMulW i j := wide_mul h g (by decide) (by decide) (by decide)
theorem Bd.add2 {k m : Nat} {i j : Int} (h : Bd k i) (g : Bd m j) : Bd (k + m + 1) (i + j) := Bd.add (h.mono (Nat.le_add_right k m)) (g.mono (Nat.le_add_left m k))
theorem Bd.sub2 {k m : Nat} {i j : Int} (h : Bd k i) (g : Bd m j) : Bd (k + m + 1) (i - j) := Bd.sub (h.mono (Nat.le_add_right k m)) (g.mono (Nat.le_add_left m k))
theorem Bd.fdiv {k : Nat} {i j : Int} (h : Bd k i) : Bd k (i.fdiv j) := by
  unfold Bd at *
  have : (i.fdiv j).natAbs ≤ i.natAbs := Int.natAbs_fdiv_le_natAbs i j
  omega
theorem Bd.lit {i : Int} (k : Nat) (h : decide (i.natAbs < 2 ^ k) = true) : Bd k i := by unfold Bd; exact of_decide_eq_true h
theorem Bd.of_lt {k : Nat} {i n : Int} (h0 : 0 ≤ i) (h1 : i < n) (h : Bd k n) : Bd k i := by unfold Bd at *; omega
theorem Bd.of_le {k : Nat} {i n : Int} (h0 : -n ≤ i) (h1 : i ≤ n) (h : Bd k n) : Bd k i := by unfold Bd at *; omega
theorem cmc {i j : Int} (h : Bd BIG i) (g : Bd BIG j) : CMulW i j := big_mul h g
section
variable {P : Program} {w : World} {K : PySem.W.Frag} {mg : Str → Option Value} {base : Heap} {E E' : XK} {e : EW} {ρ : List (Option D)} {B : Int} {k : KD} {κ : KS} {ta tb : TE} {t : TA}
def core : D → D
  | .tb d => core d
  | .at_ _ d => core d
  | d => d
theorem Rep.core {G : Hp} : ∀ {d : D} {v : V}, Rep K G B d v → Rep K G B (AW.core d) v
  | .tb d, _, ⟨_, h⟩ => Rep.core (d := d) h
  | .dk _ _, _, h => h
  | .kt _, _, h => h
  | .dt _ _ _, _, h => h
  | .at_ _ d, _, ⟨_, h⟩ => Rep.core (d := d) h
  | .non, _, h => h
  | .bl _, _, h => h
  | .int _, _, h => h
  | .str _, _, h => h
  | .tup _, _, h => h
  | .lst _, _, h => h
  | .ins _ _ _, _, h => h
  | .pen _ _, _, h => h
  | .scr _, _, h => h
  | .val _, _, h => h
  | .lam _ _, _, h => h
  | .edk, _, h => h
/-- no object of a class of one's own -/
def plainD : D → Bool
  | .ins _ _ _ => false
  | .pen _ _ => false
  | .scr _ => false
  | .dk _ _ => false
  | .kt _ => false
  | .dt _ _ _ => false
  | .tb d => plainD d
  | .val _ => false
  | .lam _ _ => false
  | .at_ _ d => plainD d
  | _ => true
theorem tyx_tup {K : PySem.W.Frag} {H : Hp} {a : Addr} {xs : List V} (h : SqT K H a xs) : TyX K H (.ref a) (.type "tuple") := by
  rcases h with (h | ⟨o, h⟩) | ⟨o, its, n, hk, hc, _⟩
  · exact .base (.tup h)
  · exact .fTuple h
  · exact .kTuple hk hc
/-- a wish for an error of one field -/
theorem Err.ofX {H G : Hp} {C : Addr} {f : Str} {d : D} {v : V} (s : Sub G H) (r : Rep K G B d v) (x : XOk K E e G H B) (h : e C (some ([f], [d])) B) : Err H E C f v := fun dx H' ss nd hd => by
  have e1 : Ext G H B G H' B := ⟨Le.refl _ _, fun a o z => ss _ _ (s _ _ z), fun a o z n _ => ⟨ss _ _ z, n⟩⟩
  exact x C _ B G H' h e1 dx [v] hd rfl ⟨v, [], rfl, r, rfl⟩
def intD : D → Bool
  | .int _ => true
  | .tb d => intD d
  | .val v => AW.intV v
  | .at_ _ d => intD d
  | _ => false
theorem Rep.intV {G : Hp} : ∀ {d : D} {v : V}, Rep K G B d v → AW.intV v = intD d
  | .non, _, h => by rw [show _ = _ from h]; rfl
  | .bl b, _, h => by rw [show _ = _ from h]; rfl
  | .int i, _, h => by rw [show _ = _ from h]; rfl
  | .str i, _, h => by rw [show _ = _ from h]; rfl
  | .lst _, _, ⟨a, vs, e, h, hr⟩ => by rw [e]; rfl
  | .tup _, _, ⟨a, vs, e, h, hr⟩ => by rw [e]; rfl
  | .ins _ _ _, _, ⟨a, dx, vs, e, _⟩ => by rw [e]; rfl
  | .pen _ _, _, ⟨_, a, _, _, _, _, e, _⟩ => by rw [e]; rfl
  | .scr _, _, ⟨_, a, e, _⟩ => by rw [e]; rfl
  | .dk _ _, _, ⟨a, _, e, _⟩ => by rw [e]; rfl
  | .kt _, _, ⟨a, e, _⟩ => by rw [e]; rfl
  | .dt _ _ _, _, ⟨a, _, e, _⟩ => by rw [e]; rfl
  | .tb d, _, ⟨_, h⟩ => Rep.intV (d := d) h
  | .lam _ _, _, ⟨f, d, e, _⟩ => by rw [e]; rfl
  | .at_ _ d, _, ⟨_, h⟩ => Rep.intV (d := d) h
  | .edk, _, ⟨a, e, _⟩ => by rw [e]; rfl
  | .val _, _, h => by rw [show _ = _ from h]; rfl
def isIB : D → Bool
  | .int _ => true
  | .bl _ => true
  | .tb d => isIB d
  | .at_ _ d => isIB d
  | _ => false
def isBB : D → Bool
  | .bl _ => true
  | .tb d => isBB d
  | .at_ _ d => isBB d
  | _ => false
theorem Rep.isIB {G H : Hp} (s : Sub G H) : ∀ {d : D} {v : V}, Rep K G B d v → plainD d = true → ∃ ty, TyX K H v ty ∧ TyT ty ∧ isI ty = AW.isIB d ∧ isB ty = AW.isBB d
  | .non, _, h, _ => by rw [show _ = _ from h]; exact ⟨_, .base .non, .inl rfl, rfl, rfl⟩
  | .bl b, _, h, _ => by rw [show _ = _ from h]; exact ⟨_, .base (.bl b), .inr (.inl rfl), rfl, rfl⟩
  | .int i, _, h, _ => by rw [show _ = _ from h]; exact ⟨_, .base (.int i), .inr (.inr (.inl rfl)), rfl, rfl⟩
  | .str i, _, h, _ => by rw [show _ = _ from h]; exact ⟨_, .base (.str i), .inr (.inr (.inr (.inl rfl))), rfl, rfl⟩
  | .lst _, _, ⟨a, vs, e, h, hr⟩, _ => by rw [e]; exact ⟨_, .base (.lst (s _ _ h)), .inr (.inr (.inr (.inr (.inl rfl)))), rfl, rfl⟩
  | .tup _, _, ⟨a, vs, e, h, hr⟩, _ => by rw [e]; exact ⟨_, tyx_tup ((Le.of_sub (B := B) (B' := B) s (Int.le_refl _)).seqT h), .inr (.inr (.inr (.inr (.inr (.inl rfl))))), rfl, rfl⟩
  | .dk _ _, _, _, o => nomatch o
  | .kt _, _, _, o => nomatch o
  | .dt _ _ _, _, _, o => nomatch o
  | .tb d, _, ⟨_, h⟩, o => Rep.isIB s (d := d) h o
  | .at_ _ d, _, ⟨_, h⟩, o => Rep.isIB s (d := d) h o
  | .edk, _, ⟨a, e, h⟩, _ => by rw [e]; exact ⟨_, .base (.dK (s _ _ h)), .inr (.inr (.inr (.inr (.inr (.inr rfl))))), rfl, rfl⟩
  | .ins _ _ _, _, _, o => nomatch o
  | .pen _ _, _, _, o => nomatch o
  | .scr _, _, _, o => nomatch o
  | .val _, _, _, o => nomatch o
  | .lam _ _, _, _, o => nomatch o
theorem we_isi_int (T : Tx K mg) (h : Wa K E e t ρ B fun ds B1 => ∃ d, ds = [d, .val (.ty "int")] ∧ plainD d = true ∧ k (.bl (isIB d)) B1) : We K E e (tCB (rIsi K) t) ρ B k :=
  we_cb fun σ H G Q s en x q => h σ H G Q s en x fun ds vs B1 G1 H1 ⟨d, ed, p, hk⟩ e1 r1 => q ds vs B1 G1 H1 (fun ws H2 G2 Q2 s2 r2 q2 => by
    subst ed
    obtain ⟨v, _, rfl, rv, c, _, rfl, rc, rfl⟩ := r2
    rw [show c = _ from rc]
    obtain ⟨ty, y1, y2, y3, _⟩ := rv.isIB s2 p
    exact ⟨_, _, _, _, _, rfl, .ty _, y1, kit_int y2, q2 (.bl _) _ _ _ _ (y3 ▸ hk) (Ext.refl s2) rfl⟩) e1 r1
theorem we_isi_bool (T : Tx K mg) (h : Wa K E e t ρ B fun ds B1 => ∃ d, ds = [d, .val (.ty "bool")] ∧ plainD d = true ∧ k (.bl (isBB d)) B1) : We K E e (tCB (rIsi K) t) ρ B k :=
  we_cb fun σ H G Q s en x q => h σ H G Q s en x fun ds vs B1 G1 H1 ⟨d, ed, p, hk⟩ e1 r1 => q ds vs B1 G1 H1 (fun ws H2 G2 Q2 s2 r2 q2 => by
    subst ed
    obtain ⟨v, _, rfl, rv, c, _, rfl, rc, rfl⟩ := r2
    rw [show c = _ from rc]
    obtain ⟨ty, y1, y2, _, y4⟩ := rv.isIB s2 p
    exact ⟨_, _, _, _, _, rfl, .ty _, y1, kit_bool y2, q2 (.bl _) _ _ _ _ (y4 ▸ hk) (Ext.refl s2) rfl⟩) e1 r1
/-- raise C(d), C with one field -/
theorem ws_raise1 {C : Addr} {f : Str} (h : Wa K E e t ρ B fun ds B1 => ∃ d, ds = [d] ∧ e C (some ([f], [d])) B1) : Ws K E e (fun _ σ H => tMkO C (sp_einit C f) [] t σ H fun cls d H' => E cls d H') ρ B κ := fun σ H G Dn s en x q =>
  h σ H G _ s en x fun ds vs B1 G1 H1 ⟨d, ed, he⟩ e1 r1 => by
    subst ed
    obtain ⟨v, _, rfl, rv, rfl⟩ := r1
    exact mk_einit (σ := σ) (ta := fun _ H Q => Q [v] H) ⟨rfl, rfl⟩ (Err.ofX e1.sub rv (x.ext e1) he) fun Q Q' h1 h2 => h1 _ _ h2
end
end AW

set_option linter.all false
set_option maxRecDepth 100000
set_option maxHeartbeats 4000000
namespace AW
open PySem PySem.Spec PyProof.Rows L2
/-! ### the pen -/
abbrev kC : Key := Sum.inr "cells"
abbrev kS : Key := Sum.inr "mark"
abbrev kR : Key := Sum.inr "rest"
theorem kCS : ¬ (kC = kS) := by decide +kernel
theorem kCR : ¬ (kC = kR) := by decide +kernel
theorem kSR : ¬ (kS = kR) := by decide +kernel
theorem kSC : ¬ (kS = kC) := by decide +kernel
theorem kRC : ¬ (kR = kC) := by decide +kernel
theorem kRS : ¬ (kR = kS) := by decide +kernel
def penD (c : Addr) (s r : Int) : List (Key × V) := [(kC, .ref c), (kS, .int s), (kR, .int r)]
theorem pen_c (c : Addr) (s r : Int) : valV (penD c s r) kC = some (.ref c) := valV_pos rfl
theorem pen_s (c : Addr) (s r : Int) : valV (penD c s r) kS = some (.int s) := (valV_neg kCS).trans (valV_pos rfl)
theorem pen_r (c : Addr) (s r : Int) : valV (penD c s r) kR = some (.int r) := (valV_neg kCR).trans ((valV_neg kSR).trans (valV_pos rfl))
theorem pen_ps (c : Addr) (s r z : Int) : putK (penD c s r) kS (.int z) = penD c z r := by
  unfold putK
  rw [if_pos (by rw [valV_any, pen_s]; rfl)]
  show [if kC = kS then (kC, V.int z) else (kC, V.ref c), if kS = kS then (kS, V.int z) else (kS, V.int s), if kR = kS then (kR, V.int z) else (kR, V.int r)] = penD c z r
  rw [if_neg kCS, if_pos rfl, if_neg kRS]
  rfl
theorem pen_pr (c : Addr) (s r z : Int) : putK (penD c s r) kR (.int z) = penD c s z := by
  unfold putK
  rw [if_pos (by rw [valV_any, pen_r]; rfl)]
  show [if kC = kR then (kC, V.int z) else (kC, V.ref c), if kS = kR then (kS, V.int z) else (kS, V.int s), if kR = kR then (kR, V.int z) else (kR, V.int r)] = penD c s z
  rw [if_neg kCR, if_neg kSR, if_pos rfl]
  rfl
theorem pen_mk (c : Addr) (s r : Int) : mergeK [] [(kC, .ref c), (kS, .int s), (kR, .int r)] = penD c s r := by
  unfold mergeK
  show putK (putK (putK [] kC (.ref c)) kS (.int s)) kR (.int r) = penD c s r
  rw [L2.putK_new _ valV_nil]
  rw [L2.putK_new _ (show valV ([] ++ [(kC, V.ref c)]) kS = none from valV_neg kCS)]
  rw [L2.putK_new _ (show valV ([] ++ [(kC, V.ref c)] ++ [(kS, V.int s)]) kR = none from (valV_neg kCR).trans (valV_neg kSR))]
  rfl
/-- the pen at p: its cells, at most 63 ints; no more than B stops so far -/
structure Pen (H : Hp) (p : Addr) (B : Int) : Prop where
  at_ : ∃ (c : Addr) (ns : List Int) (s r : Int), H p = some (.dK (penD c s r)) ∧ H c = some (.lst (ns.map V.int)) ∧ ns.length ≤ 63 ∧ 0 ≤ s ∧ s ≤ B
theorem dg_c {H : Hp} {p c : Addr} {s r : Int} (e : H p = some (.dK (penD c s r))) : DGet H p (.str "cells") (some (.ref c)) := by
  have h := DGet.k (k := kC) e
  rw [pen_c] at h
  exact h
theorem dg_s {H : Hp} {p c : Addr} {s r : Int} (e : H p = some (.dK (penD c s r))) : DGet H p (.str "mark") (some (.int s)) := by
  have h := DGet.k (k := kS) e
  rw [pen_s] at h
  exact h
theorem dg_r {H : Hp} {p c : Addr} {s r : Int} (e : H p = some (.dK (penD c s r))) : DGet H p (.str "rest") (some (.int r)) := by
  have h := DGet.k (k := kR) e
  rw [pen_r] at h
  exact h
theorem dp_s {H : Hp} {p c : Addr} {s r z : Int} (e : H p = some (.dK (penD c s r))) : DPut H p (.str "mark") (.int z) (upd H p (.dK (penD c z r))) := by
  have h := DPut.k (k := kS) (v := .int z) e (by show 3 < sizeLine; decide)
  rw [pen_ps] at h
  exact h
theorem dp_r {H : Hp} {p c : Addr} {s r z : Int} (e : H p = some (.dK (penD c s r))) : DPut H p (.str "rest") (.int z) (upd H p (.dK (penD c s z))) := by
  have h := DPut.k (k := kR) (v := .int z) e (by show 3 < sizeLine; decide)
  rw [pen_pr] at h
  exact h
/-- all but the pen stays -/
structure But (p : Addr) (H H' : Hp) : Prop where
  st : ∀ b o, b ≠ p → H b = some o → H' b = some o
  cl : ∀ c s r, H p = some (.dK (penD c s r)) → ∃ s' r', H' p = some (.dK (penD c s' r'))
theorem But.refl {p : Addr} (H : Hp) : But p H H := ⟨fun _ _ _ h => h, fun _ s r h => ⟨s, r, h⟩⟩
theorem But.trans {p : Addr} {H H1 H2 : Hp} (a : But p H H1) (b : But p H1 H2) : But p H H2 :=
  ⟨fun c o n h => b.st c o n (a.st c o n h), fun c s r h => by
    obtain ⟨s1, r1, h1⟩ := a.cl c s r h
    exact b.cl c s1 r1 h1⟩
theorem But.of {p : Addr} {H H' : Hp} (s : Same H H') : But p H H' := ⟨fun b o _ h => s b o h, fun c z r h => ⟨z, r, s _ _ h⟩⟩
theorem penD_inj {c c' : Addr} {s r s' r' : Int} (h : penD c s r = penD c' s' r') : c = c' := by
  injection h with h1 _
  injection h1 with _ h2
  injection h2
theorem But.upd {p c : Addr} {z r z' r' : Int} {H H' : Hp} (s : But p H H') (e : H' p = some (.dK (penD c z r))) : But p H (upd H' p (.dK (penD c z' r'))) :=
  ⟨fun b u n h => by rw [upd_ne n]; exact s.st b u n h, fun c2 s2 r2 h => by
    obtain ⟨s3, r3, h3⟩ := s.cl c2 s2 r2 h
    rw [e] at h3
    injection h3 with h3
    injection h3 with h3
    rw [penD_inj h3] at *
    exact ⟨z', r', upd_same⟩⟩
theorem But.new {p q : Addr} {H H' : Hp} {o : HO} (s : But p H H') (h : H' q = none) : But p H (L2.upd H' q o) :=
  ⟨fun b u n e => by
    have e' := s.st b u n e
    rw [upd_ne (ne_of_none e' h)]
    exact e', fun c z r e => by
    obtain ⟨z1, r1, e1⟩ := s.cl c z r e
    exact ⟨z1, r1, by rw [upd_ne (ne_of_none e1 h)]; exact e1⟩⟩
theorem Pen.mono {H H' : Hp} {p : Addr} {B B' : Int} (h : Pen H p B) (l : B ≤ B') (s : Same H H') : Pen H' p B' := by
  obtain ⟨c, ns, z, r, e1, e2, h1, h2, h3⟩ := h.at_
  exact ⟨⟨c, ns, z, r, s _ _ e1, s _ _ e2, h1, h2, Int.le_trans h3 l⟩⟩
theorem Pen.le {H : Hp} {p : Addr} {B B' : Int} (h : Pen H p B) (l : B ≤ B') : Pen H p B' := h.mono l (Same.refl H)
theorem fmod_in {a b : Int} (h : 0 < b) : 0 ≤ a.fmod b ∧ a.fmod b < b := ⟨Int.fmod_nonneg_of_pos a h, Int.fmod_lt_of_pos a h⟩
section
variable {P : Program} {w : World} {K : PySem.W.Frag} {mg : Str → Option Value} {base : Heap}
def sp_l_begin (T : Tx K mg) : Sp := fun vs H Q E => ∃ (a : Addr) (ns : List Int), vs = [.ref a] ∧ SqL K H a (ns.map V.int) ∧ ns.length ≤ 63 ∧ ∀ p c H', Same H H' → H p = none → H c = none → c ≠ p → H' p = some (.dK (penD c 0 0)) → H' c = some (.lst (ns.map V.int)) → Q (.ref p) H'
theorem ok_l_begin (T : Tx K mg) : FnOk P w K mg base (L2.CX P w) 1 T.a_l_begin T.d_l_begin P_l_begin (sp_l_begin T) := by
  refine T.F_l_begin.okX sc_l_begin (fun vs H Q E h => ?_) (fun cdv A outer s H vs Q E hr h => ?_)
  · obtain ⟨a, ns, rfl, _⟩ := h
    rfl
  · obtain ⟨a, ns, rfl, hS, hlen, k⟩ := h
    refine ⟨_, pss_one (ps_ret (pe_disp (pps_cons pe_str (pe_callTy call_list_of rfl T.n_list (by decide +kernel) (pa_cons (pe_slice sl_list (pv 0) po_none (po_some pe_int)) pa_nil))
      (pps_cons pe_str pe_int (pps_cons pe_str pe_int pps_nil))) (by rfl) (by rfl) (fun z => by cases z) (by decide))), ?_⟩
    refine fun p np => ?_
    have s1 : Same H (upd H p (.dK [])) := Same.laid np
    refine ⟨_, rfl, _, rfl, a, _, rfl, s1.seq hS, fun q nq => ⟨q, _, rfl, .inl (.of upd_same), fun l nl => ?_⟩⟩
    have npq : p ≠ q := ne_of_none upd_same nq
    have nql : q ≠ l := ne_of_none upd_same nl
    have npl : p ≠ l := ne_of_none (by rw [upd_ne npq]; exact upd_same) nl
    refine ⟨by rw [upd_ne npl, upd_ne npq, upd_same], [(kC, .ref l), (kS, .int 0), (kR, .int 0)], rfl, (by show 3 ≤ 15; decide), ?_⟩
    have hcut : cutV (ns.map V.int) none (some 63) = ns.map V.int := by
      unfold cutV
      have e1 : HT.sIx (ns.map V.int).length 0 none = 0 := rfl
      have e2 : (ns.map V.int).length ≤ 63 := by rw [List.length_map]; exact hlen
      rw [e1]
      show ((ns.map V.int).drop 0).take _ = _
      rw [List.drop_zero, List.take_of_length_le]
      have e3 : HT.sIx (ns.map V.int).length (ns.map V.int).length (some 63) = (ns.map V.int).length := by
        simp [HT.sIx]
        omega
      rw [e3]
      omega
    have sF : Same H (upd (upd (upd (upd H p (.dK [])) q (.lst (cutV (ns.map V.int) none (some 63)))) l (.lst (cutV (ns.map V.int) none (some 63)))) p (.dK (mergeK [] [(kC, .ref l), (kS, .int 0), (kR, .int 0)]))) := fun b o e => by
      have nb : b ≠ p := ne_of_none e np
      have e1 : upd H p (.dK []) b = some o := by rw [upd_ne nb]; exact e
      have nq' : b ≠ q := ne_of_none e1 nq
      have e2 : upd (upd H p (.dK [])) q (.lst (cutV (ns.map V.int) none (some 63))) b = some o := by rw [upd_ne nq']; exact e1
      rw [upd_ne nb, upd_ne (ne_of_none e2 nl)]
      exact e2
    have nl0 : H l = none := by
      cases z : H l with
      | none => rfl
      | some u =>
        have z1 := s1 _ _ z
        have nql' : l ≠ q := fun w => by rw [w, nq] at z1; cases z1
        rw [upd_ne nql', z1] at nl
        cases nl
    refine k p l _ sF np nl0 npl.symm ?_ ?_
    · rw [pen_mk]; exact upd_same
    · rw [upd_ne npl.symm, upd_same, hcut]
end
end AW

set_option linter.all false
set_option maxRecDepth 100000
set_option maxHeartbeats 8000000
namespace AW
open PySem PySem.Spec PyProof.Rows L2
section
variable {P : Program} {w : World} {K : PySem.W.Frag} {mg : Str → Option Value} {base : Heap}
theorem dp_ints {K : PySem.W.Frag} {H : Hp} : ∀ ms : List Int, DpAll K H (ms.map V.int) (ms.map PyData.int)
  | [] => .nil
  | m :: r => .cons (.int m) (dp_ints r)
theorem sh_ints (ms : List Int) : SeqAt.shaped (.list (ms.map PyData.int)) = true := PySem.W.ke_shaped_ints ms
/-- a drawn number, the pen a stop further at most -/
def Drawn (H : Hp) (Q : VK) (p : Addr) (B : Int) (ok : Int → Prop) : Prop := ∀ (d : Int) (H' : Hp), ok d → But p H H' → Pen H' p B → Q (.int d) H'
def sp_l_draw (T : Tx K mg) : Sp := fun vs H Q E => ∃ (p : Addr) (n B : Int), vs = [.ref p, .int n] ∧ 0 < n ∧ n < 1073741824 ∧ Pen H p B ∧ B ≤ 1000000 ∧ Drawn H Q p (B + 1) fun d => 0 ≤ d ∧ d < n
theorem ok_l_draw (T : Tx K mg) : FnOk P w K mg base (L2.CX P w) 1 T.a_l_draw T.d_l_draw P_l_draw (sp_l_draw T) := by
  refine T.F_l_draw.okX sc_l_draw (fun vs H Q E h => ?_) (fun cdv A outer s H vs Q E hr h => ?_)
  · obtain ⟨p, n, B, rfl, _⟩ := h
    rfl
  · obtain ⟨p, n, B, rfl, h0, h1, hp, hB, k⟩ := h
    have hu := hu_of hr
    obtain ⟨c, ns, st, rs, e1, e2, hl, hs0, hsB⟩ := hp.at_
    have npc : p ≠ c := ne_of e1 e2 (by intro z; cases z)
    refine ⟨_, (pss_cons (ps_if (pt_cmpR op_gt (pe_dget hu (pv 0) pe_str (fun _ _ => rfl)) pe_int (nomark _))
 (pss_cons (ps_set (i := 2) sc_l_draw.nd rfl (.inl rfl) (pe_op op_modN (pe_callTy call_int1 (by rfl) T.n_int (by decide +kernel) (pa_cons (pe_dget hu (pv 0) pe_str (fun _ _ => rfl)) pa_nil)) (pv 1)))
 (pss_cons (ps_dput hu (pv 0) pe_str (pe_op op_fdivN (pe_dget hu (pv 0) pe_str (fun _ _ => rfl)) (pv 1)) rfl)
 (pss_one (ps_ret (pv 2)))))
 pss_nil)
 (pss_cons (ps_set (i := 3) sc_l_draw.nd rfl (.inl rfl) (pe_dget hu (pv 0) pe_str (fun _ _ => rfl)))
 (pss_cons (ps_dput hu (pv 0) pe_str (pe_op op_add (pv 3) pe_int) rfl)
 (pss_cons (ps_set (i := 4) sc_l_draw.nd rfl (.inl rfl) (pe_op op_add (pe_op op_mul pe_int (pv 3)) pe_int))
 (pss_cons (ps_if (pt_cmpR (op_neD hr.units) (pe_dget hu (pv 0) pe_str (fun _ _ => rfl)) (pe_lst pa_nil) (nomark _))
 (pss_one (ps_set (i := 4) sc_l_draw.nd rfl (.inl rfl) (pe_ix ix_list (pe_dget hu (pv 0) pe_str (fun _ _ => rfl)) (pe_op op_modN (pe_callTy call_int1 (by rfl) T.n_int (by decide +kernel) (pa_cons (pv 3) pa_nil)) (pe_callB call_len_seq (by rfl) T.n_len (by decide +kernel) (pa_cons (pe_dget hu (pv 0) pe_str (fun _ _ => rfl)) pa_nil))) (fun _ _ => rfl))))
 pss_nil)
 (pss_cons (ps_if (PW.pt (pw_and (pt_cmpR op_lt (pv 3) (pe_callB call_len_seq (by rfl) T.n_len (by decide +kernel) (pa_cons (pe_dget hu (pv 0) pe_str (fun _ _ => rfl)) pa_nil)) (nomark _)) (pw_and1 (pt_cmpR op_ge (pe_callB call_abs (by rfl) T.n_abs (by decide +kernel) (pa_cons (pv 4) pa_nil)) (pe_op op_pow pe_int pe_int) (nomark _)))))
 (pss_cons (ps_dput hu (pv 0) pe_str (pe_op op_fdivN (pe_op op_sub (pe_callB call_abs (by rfl) T.n_abs (by decide +kernel) (pa_cons (pv 4) pa_nil)) (pe_op op_pow pe_int pe_int)) (pv 1)) rfl)
 (pss_one (ps_ret (pe_op op_modN (pe_callTy call_int1 (by rfl) T.n_int (by decide +kernel) (pa_cons (pe_op op_sub (pe_callB call_abs (by rfl) T.n_abs (by decide +kernel) (pa_cons (pv 4) pa_nil)) (pe_op op_pow pe_int pe_int)) pa_nil)) (pv 1)))))
 pss_nil)
 (pss_cons (ps_set (i := 5) sc_l_draw.nd rfl (.inl rfl) (pe_op op_add (pe_op op_mul (pe_op op_modN (pe_callTy call_int1 (by rfl) T.n_int (by decide +kernel) (pa_cons (pv 4) pa_nil)) pe_int) pe_int) (pe_op op_mul (pe_op op_mul pe_int (pv 3)) (pv 3))))
 (pss_cons (ps_set (i := 5) sc_l_draw.nd rfl (.inl rfl) (pe_op op_modN (pe_callTy call_int1 (by rfl) T.n_int (by decide +kernel) (pa_cons (pe_op op_add (pe_op op_add (pv 5) (pe_op op_mul pe_int (pv 3))) pe_int) pa_nil)) pe_int))
 (pss_cons (ps_set (i := 5) sc_l_draw.nd rfl (.inl rfl) (pe_op op_modN (pe_callTy call_int1 (by rfl) T.n_int (by decide +kernel) (pa_cons (pe_op op_add (pe_op op_add (pe_op op_add (pe_op op_mul (pv 5) (pv 5)) (pe_op op_mul pe_int (pv 5))) (pe_op op_mul pe_int (pv 3))) pe_int) pa_nil)) pe_int))
 (pss_cons (ps_set (i := 5) sc_l_draw.nd rfl (.inl rfl) (pe_op op_modN (pe_callTy call_int1 (by rfl) T.n_int (by decide +kernel) (pa_cons (pe_op op_add (pe_op op_add (pe_op op_mul (pv 5) (pv 5)) (pe_op op_mul pe_int (pv 5))) (pv 3)) pa_nil)) pe_int))
 (pss_one (ps_ret (pe_op op_modN (pe_callTy call_int1 (by rfl) T.n_int (by decide +kernel) (pa_cons (pe_op op_fdivN (pe_op op_modN (pe_callTy call_int1 (by rfl) T.n_int (by decide +kernel) (pa_cons (pe_op op_mul (pv 5) (pe_op op_add (pv 5) pe_int)) pa_nil)) pe_int) pe_int) pa_nil)) (pv 1)))))))))))))), ?_⟩
    have dn : CDivN rs n := ⟨by omega, by omega⟩
    refine ⟨_, rfl, p, _, rfl, dg_r e1, _, _, rfl, rfl, _, rfl, ?_⟩
    refine ite2 (fun _ => ?_) (fun _ => ?_)
    · refine ⟨_, rfl, p, _, rfl, dg_r e1, .inl ⟨_, rfl, _, rfl, _, _, rfl, rfl, (by omega), ?_⟩⟩
      refine ⟨_, rfl, p, _, rfl, dg_r e1, _, rfl, _, _, rfl, rfl, dn, _, rfl, p, _, rfl, dp_r e1, ?_⟩
      refine ⟨_, rfl, k _ _ (fmod_in h0) (But.upd (But.refl H) e1) ⟨c, ns, st, _, upd_same, by rw [upd_ne npc.symm]; exact e2, hl, hs0, by omega⟩⟩
    · refine ⟨_, rfl, p, _, rfl, dg_s e1, ?_⟩
      refine ⟨_, rfl, _, _, rfl, rfl, _, rfl, p, _, rfl, dp_s e1, ?_⟩
      refine ⟨_, rfl, _, _, rfl, rfl, .inl ⟨by decide, by decide⟩, _, _, rfl, rfl, ?_⟩
      have hp1 : upd H p (.dK (penD c (st + 1) rs)) p = some (.dK (penD c (st + 1) rs)) := upd_same
      have hc1 : upd H p (.dK (penD c (st + 1) rs)) c = some (.lst (ns.map V.int)) := by rw [upd_ne npc.symm]; exact e2
      have b1 : But p H (upd H p (.dK (penD c (st + 1) rs))) := But.upd (But.refl H) e1
      generalize upd H p (.dK (penD c (st + 1) rs)) = H1 at hp1 hc1 b1 ⊢
      refine ⟨_, rfl, p, _, rfl, dg_c hp1, (by show 0 ≤ sizeLine; decide), fun e0 ne0 => ?_⟩
      have se0 : Same H1 (upd H1 e0 (.lst [])) := Same.laid ne0
      have hp2 := se0 _ _ hp1
      have hc2 := se0 _ _ hc1
      have b2 : But p H (upd H1 e0 (.lst [])) := b1.new ne0
      have he2 : upd H1 e0 (.lst []) e0 = some (.lst []) := upd_same
      generalize upd H1 e0 (.lst []) = H2 at hp2 hc2 b2 he2 ⊢
      refine ⟨.list (ns.map PyData.int), .list [], .lst (SqL.of hc2) (dp_ints ns), .lst (SqL.of he2) .nil, sh_ints ns, rfl, _, rfl, ?_⟩
      have dz : ∀ z : Int, CDivN z n := fun z => ⟨by omega, by omega⟩
      have n0 : n ≠ 0 := by omega
      have cp : CPow 10 18 := ⟨by decide, by decide, by decide⟩
      have nzA : (4294966297 : Int) ≠ 0 := by decide
      have nzB : (4294966279 : Int) ≠ 0 := by decide
      have nzC : (4294966237 : Int) ≠ 0 := by decide
      have nzD : (4294966217 : Int) ≠ 0 := by decide
      have nzE : (4294966187 : Int) ≠ 0 := by decide
      have bB : ∀ x : Int, -(2 ^ 64) < x.fmod 4294966279 ∧ x.fmod 4294966279 < 2 ^ 64 := fun x => by have := fmod_in (a := x) (b := 4294966279) (by decide); omega
      have bC : ∀ x : Int, -(2 ^ 64) < x.fmod 4294966237 ∧ x.fmod 4294966237 < 2 ^ 64 := fun x => by have := fmod_in (a := x) (b := 4294966237) (by decide); omega
      have bD : ∀ x : Int, -(2 ^ 64) < x.fmod 4294966217 ∧ x.fmod 4294966217 < 2 ^ 64 := fun x => by have := fmod_in (a := x) (b := 4294966217) (by decide); omega
      have kk : ∀ (z : Int) H', But p H H' → Pen H' p (B + 1) → Q (.int (z.fmod n)) H' := fun z H' b q => k _ H' (fmod_in h0) b q
      have P2 : ∀ H', (∃ r, H' p = some (.dK (penD c (st + 1) r))) → H' c = some (.lst (ns.map V.int)) → Pen H' p (B + 1) := fun H' ⟨r, e⟩ e' => ⟨c, ns, st + 1, r, e, e', hl, by omega, by omega⟩
      refine ite2 (fun hne => ?_) (fun _ => ?_)
      focus
        have hpos : 0 < ns.length := by
          cases ns with
          | nil => exact absurd hne (by decide)
          | cons a r => exact Nat.succ_pos _
        have hm := fmod_in (a := st) (b := (ns.length : Int)) (by omega)
        have hi : ∃ z, atI (ns.map V.int) (st.fmod ((ns.map V.int).length : Int)) = some (.int z) := by
          rw [List.length_map]
          obtain ⟨j, hj⟩ := Int.eq_ofNat_of_zero_le hm.1
          have hj2 : j < ns.length := by omega
          refine ⟨ns[j], ?_⟩
          rw [hj, atI_nat (by rw [List.getElem?_map, List.getElem?_eq_getElem hj2]; rfl)]
        obtain ⟨z, hz⟩ := hi
        refine ⟨_, rfl, p, _, rfl, dg_c hp2, _, rfl, .inl ⟨_, rfl, _, rfl, p, _, rfl, dg_c hp2, c, _, rfl, .inl (SqL.of hc2), _, _, rfl, rfl, (by rw [List.length_map]; omega), c, _, _, _, rfl, rfl, SqL.of hc2, hz, ?_⟩⟩
        clear hz hm hne hpos
      all_goals
        refine ⟨_, rfl, _, rfl, p, _, rfl, dg_c hp2, c, _, rfl, .inl (SqL.of hc2), _, _, rfl, rfl, _, rfl, ?_⟩
        refine ite2 (fun _ => ?_) (fun _ => ?_)
        focus
          refine ⟨_, rfl, _, rfl, _, _, rfl, rfl, cp, _, _, rfl, rfl, _, rfl, ?_⟩
          refine ite2 (fun _ => ?_) (fun _ => ?_)
          focus
            refine ⟨_, rfl, _, rfl, _, _, rfl, rfl, cp, _, _, rfl, rfl, _, rfl, _, _, rfl, rfl, dz _, _, rfl, p, _, rfl, dp_r hp2, ?_⟩
            refine ⟨_, rfl, _, rfl, _, _, rfl, rfl, cp, _, _, rfl, rfl, .inl ⟨_, rfl, _, rfl, _, _, rfl, rfl, n0, ?_⟩⟩
            exact kk _ _ (b2.upd hp2) (P2 _ ⟨_, upd_same⟩ (by rw [upd_ne npc.symm]; exact hc2))
        rotate_left
        focus
          refine iteF ?_
        all_goals
          refine ⟨_, rfl, .inl ⟨_, rfl, _, _, rfl, rfl, nzA, _, _, rfl, rfl, .inr ⟨by decide, by decide⟩, _, rfl, _, _, rfl, rfl, .inl ⟨by decide, by decide⟩, _, rfl, _, _, rfl, rfl, .inr ⟨by omega, by omega⟩, _, _, rfl, rfl, ?_⟩⟩
          refine ⟨_, rfl, _, rfl, _, _, rfl, rfl, .inl ⟨by decide, by decide⟩, _, _, rfl, rfl, _, _, rfl, rfl, .inl ⟨_, rfl, _, _, rfl, rfl, nzB, ?_⟩⟩
          refine ⟨_, rfl, _, rfl, _, _, rfl, rfl, .inl (bB _), _, rfl, _, _, rfl, rfl, .inl ⟨by decide, by decide⟩, _, _, rfl, rfl, _, rfl, _, _, rfl, rfl, .inl ⟨by decide, by decide⟩, _, _, rfl, rfl, _, _, rfl, rfl, .inl ⟨_, rfl, _, _, rfl, rfl, nzC, ?_⟩⟩
          refine ⟨_, rfl, _, rfl, _, _, rfl, rfl, .inl (bC _), _, rfl, _, _, rfl, rfl, .inl ⟨by decide, by decide⟩, _, _, rfl, rfl, _, rfl, _, _, rfl, rfl, .inl ⟨_, rfl, _, _, rfl, rfl, nzD, ?_⟩⟩
          refine ⟨_, rfl, _, rfl, _, _, rfl, rfl, _, _, rfl, rfl, .inl (bD _), .inl ⟨_, rfl, _, _, rfl, rfl, nzE, _, _, rfl, rfl, ⟨by decide, by decide⟩, .inl ⟨_, rfl, _, rfl, _, _, rfl, rfl, n0, ?_⟩⟩⟩
          exact kk _ _ b2 (P2 _ ⟨_, hp2⟩ hc2)
end
end AW

set_option linter.all false
set_option maxRecDepth 100000
set_option maxHeartbeats 8000000
namespace AW
open PySem PySem.Spec PyProof.Rows L2
variable [Tbs]
theorem ne_of_dec {a b : Int} (h : (!decide (a = b)) = true) : ¬ a = b := by simpa using h
theorem eq_of_dec {a b : Int} (h : (!decide (a = b)) = false) : a = b := by simpa using h
theorem dvg {i j : Int} (h : j ≠ 0) (b : Bd 9000 j) : CDivG i j := by
  refine ⟨h, ?_⟩
  unfold Bd at b
  exact PySem.Flt.log2_lt_of (by decide) b
theorem intD_eq : ∀ d : D, plainD d = true → intD d = (isIB d && !isBB d)
  | .non, _ => rfl
  | .bl _, _ => rfl
  | .int _, _ => rfl
  | .str _, _ => rfl
  | .tup _, _ => rfl
  | .lst _, _ => rfl
  | .edk, _ => rfl
  | .at_ _ d, h => intD_eq d h
  | .ins _ _ _, h => nomatch h
  | .pen _ _, h => nomatch h
  | .scr _, h => nomatch h
  | .val _, h => nomatch h
  | .lam _ _, h => nomatch h
  | .dk _ _, h => nomatch h
  | .kt _, h => nomatch h
  | .dt _ _ _, h => nomatch h
  | .tb d, h => intD_eq d h
section
variable {P : Program} {w : World} {K : PySem.W.Frag} {mg : Str → Option Value} {base : Heap}
def pr_is_integer (T : Tx K mg) : Pr := fun ds B k e => ∃ d, ds = [d] ∧ plainD d = true ∧ k (.bl (intD d)) B
theorem okD_is_integer (T : Tx K mg) : FnOk P w K mg base (L2.CX P w) 1 T.a_is_integer T.d_is_integer P_is_integer (spD K (pr_is_integer T)) := by
  refine T.F_is_integer.okX sc_is_integer (spD_len fun ds B k e h => by obtain ⟨d, rfl, hp, hk⟩ := h; rfl) (fun cdv A outer s H vs Q E hr h => ?_)
  obtain ⟨G, ds, B, k, e, hs, hR, ⟨d, rfl, hp, hk⟩, hK, hX⟩ := h
  refine ⟨_, (pss_one (ps_ret (pe_and (pe_callB call_isi (by rfl) T.n_isinstance (by decide +kernel) (pa_cons (pv 0) (pa_cons (pe_bltn (v := .ty "int") (by rfl) T.n_int (by decide +kernel) rfl) pa_nil))) (pe_one (pe_not (pe_callB call_isi (by rfl) T.n_isinstance (by decide +kernel) (pa_cons (pv 0) (pa_cons (pe_bltn (v := .ty "bool") (by rfl) T.n_bool (by decide +kernel) rfl) pa_nil)))))))), run_body (ρ := [some d]) hs hR hK hX rfl ?_⟩
  rw [intD_eq d hp] at hk
  refine ws_ret (we_and (we_isi_int T (wa_cons (we_var rfl (wa_cons (we_val (wa_nil ⟨_, rfl, hp, _, rfl, fun h => ?_, fun h => ?_⟩)))))))
  · rw [h] at hk
    exact we_not (we_isi_bool T (wa_cons (we_var rfl (wa_cons (we_val (wa_nil ⟨_, rfl, hp, _, rfl, hk⟩))))))
  · rw [h] at hk
    exact hk
def badF (m : Int) (d : D) : Prop := intD d = false ∨ ∃ i : Int, d = .int i ∧ i < m
abbrev badW (d : D) : Prop := badF 0 d
def pr_check_from (T : Tx K mg) : Pr := fun ds B k e => ∃ d m, ds = [d, .int m] ∧ ((∃ i : Int, d = .int i ∧ m ≤ i ∧ k .non B) ∨ (plainD d = true ∧ badF m d ∧ e T.C_BadNumber (some ((["value"] : List Str), [d])) B))
theorem okD_check_from (T : Tx K mg) : FnOk P w K mg base (L2.CX P w) 3 T.a_check_from T.d_check_from P_check_from (spD K (pr_check_from T)) := by
  refine T.F_check_from.okX sc_check_from (spD_len fun ds B k e h => by obtain ⟨d, m, rfl, hk⟩ := h; rfl) (fun cdv A outer s H vs Q E hr h => ?_)
  have G_BadNumber_init : FnOk P w K mg base (L2.CX P w) 1 _ _ _ _ := ok_BadNumber_init T
  have G_is_integer : FnOk P w K mg base (L2.CX P w) 1 _ _ _ _ := okD_is_integer T
  obtain ⟨G, ds, B, k, e, hs, hR, ⟨d, m, rfl, hk⟩, hK, hX⟩ := h
  refine ⟨_, (pss_one (ps_if (PW.pt (pw_or (pt_not (pt_val (pe_call G_is_integer (hr.mono (by decide)) (by rfl) T.g_is_integer T.F_is_integer.kp T.b_is_integer .nil (passE (E := E)) (pa_cons (pv 0) pa_nil)))) (pw_or1 (pt_cmpR op_lt (pv 0) (pv 1) (nomark _)))))
 (pss_one (ps_raise rfl (takes_of rfl rfl rfl rfl) (pmk_oex T.X_BadNumber T.ei_BadNumber T.et_BadNumber G_BadNumber_init (hr.mono (by decide)) T.b_BadNumber_init .nil passL rfl T.g_C_BadNumber (by exact (pa_cons (pv 0) pa_nil)))))
 pss_nil)), run_body (ρ := [some d, some (.int m)]) hs hR hK hX rfl ?_⟩
  rcases hk with ⟨i, rfl, h0, hk⟩ | ⟨hp, hb, he⟩
  · refine ws_if <| wt_or <| wt_not <| wt_val <| we_call <| wa_cons <| we_var rfl <| wa_nil ⟨_, rfl, rfl, _, rfl, fun h => (nomatch h), fun _ => wt_test <| we_op <| we_var rfl <| we_var rfl <| ro_b0 ⟨_, rfl, fun h => ?_, fun h => ws_next hk⟩⟩
    exact absurd (of_decide_eq_true h) (by omega)
  · rcases hb with hb | ⟨i, rfl, h0⟩
    · refine ws_if <| wt_or <| wt_not <| wt_val <| we_call <| wa_cons <| we_var rfl <| wa_nil ⟨_, rfl, hp, _, rfl, fun _ => ⟨fun _ => ws_raise1 (wa_cons (we_var rfl (wa_nil ⟨_, rfl, he⟩))), fun h => (nomatch h)⟩, fun h => ?_⟩
      rw [hb] at h
      cases h
    · refine ws_if <| wt_or <| wt_not <| wt_val <| we_call <| wa_cons <| we_var rfl <| wa_nil ⟨_, rfl, rfl, _, rfl, fun h => (nomatch h), fun _ => wt_test <| we_op <| we_var rfl <| we_var rfl <| ro_b0 ⟨_, rfl, fun _ => ws_raise1 (wa_cons (we_var rfl (wa_nil ⟨_, rfl, he⟩))), fun h => ?_⟩⟩
      exact absurd h0 (of_decide_eq_false h)
def pr_check_whole (T : Tx K mg) : Pr := fun ds B k e => ∃ d, ds = [d] ∧ ((∃ i : Int, d = .int i ∧ 0 ≤ i ∧ k .non B) ∨ (plainD d = true ∧ badW d ∧ e T.C_BadNumber (some ((["value"] : List Str), [d])) B))
theorem okD_check_whole (T : Tx K mg) : FnOk P w K mg base (L2.CX P w) 4 T.a_check_whole T.d_check_whole P_check_whole (spD K (pr_check_whole T)) := by
  refine T.F_check_whole.okX sc_check_whole (spD_len fun ds B k e h => by obtain ⟨d, rfl, hk⟩ := h; rfl) (fun cdv A outer s H vs Q E hr h => ?_)
  have G_check_from : FnOk P w K mg base (L2.CX P w) 3 _ _ _ _ := okD_check_from T
  obtain ⟨G, ds, B, k, e, hs, hR, ⟨d, rfl, hk⟩, hK, hX⟩ := h
  refine ⟨_, (pss_one (ps_expr (pe_call G_check_from (hr.mono (by decide)) (by rfl) T.g_check_from T.F_check_from.kp T.b_check_from .nil (passE (E := E)) (pa_cons (pv 0) (pa_cons pe_int pa_nil))))), run_body (ρ := [some d]) hs hR hK hX rfl ?_⟩
  exact ws_drop <| we_callE <| wa_cons <| we_var rfl <| wa_cons <| we_int <| wa_nil ⟨d, 0, rfl, hk⟩
end
end AW

set_option linter.all false
set_option maxRecDepth 100000
set_option maxHeartbeats 8000000
namespace AW
open PySem PySem.Spec PyProof.Rows L2
variable [Tbs]
section
variable {P : Program} {w : World} {K : PySem.W.Frag} {mg : Str → Option Value} {base : Heap}
/-- the whole root, by what it is -/
def rRoot : List V → Hp → VK → Prop := fun vs H Q => ∃ a : Int, vs = [.int a] ∧ 0 ≤ a ∧ Bd 12000 a ∧ ∀ r : Int, 0 ≤ r → r * r ≤ a → a < (r + 1) * (r + 1) → Q (.int r) H
theorem Bd.one {k : Nat} (h : 1 ≤ k) : Bd k 1 := by
  show 1 < 2 ^ k
  exact Nat.lt_of_lt_of_le (by decide : 1 < 2 ^ 1) (Nat.pow_le_pow_right (by decide) h)
theorem cr_root {X : Cx} : CallR X (.builtin "math.isqrt") rRoot := by
  intro pins s σ H vs us Q I r h
  obtain ⟨a, rfl, a0, hb, q⟩ := h
  obtain ⟨u, rfl, t, rfl⟩ := vals1 r
  have l : a.toNat.log2 ≤ 12000 := by
    refine PySem.W.mg_log ?_
    have : a.natAbs = a.toNat := by omega
    rw [← this]
    exact Nat.lt_trans hb (Nat.pow_lt_pow_right (by decide) (by decide))
  have sp := Float64.isqrt_spec a.toNat
  refine call_function_meets PySem.W.MGF.kind_isqrt PySem.W.MGF.plain_isqrt PySem.W.MGF.entry_isqrt (PySem.W.MGF.args_isqrt _) (PySem.W.mg_run_isqrt a t (by omega) (by omega) (by omega)).meets ?_
  refine ⟨.int _, H, I.tok _, ⟨_, rfl⟩, q _ (by omega) ?_ ?_⟩
  · have := sp.1
    have e : ((Float64.isqrt a.toNat * Float64.isqrt a.toNat : Nat) : Int) ≤ a := by omega
    rw [Int.natCast_mul] at e
    exact e
  · have e : a < (((Float64.isqrt a.toNat + 1) * (Float64.isqrt a.toNat + 1) : Nat) : Int) := by omega
    rw [Int.natCast_mul, Int.natCast_add] at e
    exact e
end
end AW

set_option linter.all false
set_option maxRecDepth 100000
set_option maxHeartbeats 8000000
namespace AW
open PySem PySem.Spec PyProof.Rows L2
variable [Tbs]
abbrev Rn := Str × Int
abbrev prD (p : Rn) : D := .tup [.str p.1, .int p.2]
/-- one pair more: what is told, the letter that runs, its count -/
def jStep (s : List Rn × Str × Int) (p : Rn) : List Rn × Str × Int :=
  if p.2 = 0 then s else if p.1 = s.2.1 then (s.1, s.2.1, s.2.2 + p.2) else (if s.2.2 > 0 then s.1 ++ [(s.2.1, s.2.2)] else s.1, p.1, p.2)
def jEnd (s : List Rn × Str × Int) : List Rn := if s.2.2 > 0 then s.1 ++ [(s.2.1, s.2.2)] else s.1
def joinF (ps : List Rn) : List Rn := jEnd (ps.foldl jStep ([], "", 0))
theorem jStep_len (s : List Rn × Str × Int) (p : Rn) : (jStep s p).1.length ≤ s.1.length + 1 := by
  unfold jStep
  repeat' split
  all_goals simp
theorem jFold_len : ∀ (ps : List Rn) (s : List Rn × Str × Int), (ps.foldl jStep s).1.length ≤ s.1.length + ps.length
  | [], s => Nat.le_refl _
  | p :: ps, s => by
    rw [List.foldl_cons, List.length_cons]
    have := jFold_len ps (jStep s p)
    have := jStep_len s p
    omega
section
variable {P : Program} {w : World} {K : PySem.W.Frag} {mg : Str → Option Value} {base : Heap}
def pr_joined_runs (T : Tx K mg) : Pr := fun ds B k e => ∃ ps : List Rn, ds = [.lst (ps.map prD)] ∧ ps.length ≤ 1000000 ∧ k (.tup ((joinF ps).map prD)) B
theorem okD_joined_runs (T : Tx K mg) : FnOk P w K mg base (L2.CX P w) 1 T.a_joined_runs T.d_joined_runs P_joined_runs (spD K (pr_joined_runs T)) := by
  refine T.F_joined_runs.okX sc_joined_runs (spD_len fun ds B k e h => by obtain ⟨ps, rfl, hl, hk⟩ := h; rfl) (fun cdv A outer s H vs Q E hr h => ?_)
  obtain ⟨G, ds, B, k, e, hs, hR, ⟨ps, rfl, hl, hk⟩, hK, hX⟩ := h
  refine ⟨_, (pss_cons (ps_set (i := 1) sc_joined_runs.nd rfl (.inl rfl) (pe_lst pa_nil))
 (pss_cons (ps_asg (pe_tup (pa_cons pe_str (pa_cons pe_int pa_nil))) (pg_tup rfl (pgs_cons (pg_name (i := 2) sc_joined_runs.nd rfl (.inl rfl)) (pgs_cons (pg_name (i := 3) sc_joined_runs.nd rfl (.inl rfl)) pgs_nil))))
 (pss_cons (ps_for (passes_of rfl) rfl (pi_list (pv 0)) (pg_tup rfl (pgs_cons (pg_name (i := 4) sc_joined_runs.nd rfl (.inl rfl)) (pgs_cons (pg_name (i := 5) sc_joined_runs.nd rfl (.inl rfl)) pgs_nil)))
 (pss_cons (ps_if (pt_cmpR op_eq (pv 5) pe_int (nomark _))
 (pss_one ps_continue)
 pss_nil)
 (pss_cons (ps_if (pt_cmpR op_eq (pv 4) (pv 2) (nomark _))
 (pss_cons (ps_set (i := 3) sc_joined_runs.nd rfl (.inl rfl) (pe_op op_add (pv 3) (pv 5)))
 (pss_one ps_continue))
 pss_nil)
 (pss_cons (ps_if (pt_cmpR op_gt (pv 3) pe_int (nomark _))
 (pss_one (ps_expr (pe_bm PySem.F.plainAttrs_list PySem.F.slot_list_append PySem.F.type_list_append mt_append (pv 1) (pa_cons (pe_tup (pa_cons (pv 2) (pa_cons (pv 3) pa_nil))) pa_nil))))
 pss_nil)
 (pss_one (ps_par (i := 2) (j := 3) (by rfl) sc_joined_runs.nd rfl rfl (by decide) rfl rfl (pa_cons (pv 4) (pa_cons (pv 5) pa_nil)) (by rfl)))))))
 (pss_cons (ps_if (pt_cmpR op_gt (pv 3) pe_int (nomark _))
 (pss_one (ps_expr (pe_bm PySem.F.plainAttrs_list PySem.F.slot_list_append PySem.F.type_list_append mt_append (pv 1) (pa_cons (pe_tup (pa_cons (pv 2) (pa_cons (pv 3) pa_nil))) pa_nil))))
 pss_nil)
 (pss_one (ps_ret (pe_callTy call_tuple_of (by rfl) T.n_tuple (by decide +kernel) (pa_cons (pv 1) pa_nil)))))))), run_body (ρ := [some (.lst (ps.map prD)), none, none, none, none, none]) hs hR hK hX rfl ?_⟩
  have zL : 16000000 < sizeLine := by decide
  have z2 : 2 ≤ sizeLine := by decide
  refine wx_own <| wx_seq <| wx_newlist fun p => ?_
  refine wx_seq <| wx_ws <| ws_asg <| we_tup <| wa_cons <| we_str <| wa_cons <| we_int <| wa_nil ⟨Nat.le_of_ble_eq_true rfl, wg_tup rfl <| wgs_cons <| wg_name <| wgs_cons <| wg_name <| wgs_nil ?_⟩
  refine wx_seq <| wx_for_list (j := 0) rfl fun u => ⟨fun i ρ' O' B' => (∃ (o4 o5 : Option D) (s : List Rn × Str × Int), s = (ps.take i).foldl jStep ([], "", 0) ∧ ρ' = [some (.at_ u (.lst (ps.map prD))), some (.val (.ref p)), some (.str s.2.1), some (.int s.2.2), o4, o5] ∧ O' = [(p, .list (s.1.map prD))]) ∧ B = B', ⟨⟨_, _, _, rfl, rfl, rfl⟩, rfl⟩, fun i ρ' O' B' hI => ?_, fun i d ρ' O' B' hd hI => ?_, fun ρ' O' B' hI => ?_⟩
  · obtain ⟨⟨o4, o5, s, _, rfl, _⟩, _⟩ := hI
    rfl
  · obtain ⟨⟨o4, o5, s, es, rfl, rfl⟩, rfl⟩ := hI
    rw [List.getElem?_map] at hd
    obtain ⟨q, hq, rfl⟩ := Option.map_eq_some_iff.mp hd
    have tk : (ps.take (i + 1)).foldl jStep ([], "", 0) = jStep s q := by
      rw [List.take_add_one, hq, Option.toList_some, List.foldl_append, ← es]; rfl
    have ls : s.1.length ≤ 1000000 := by
      have h1 := jFold_len (ps.take i) ([], "", 0)
      rw [← es, List.length_take] at h1
      have h1 : s.1.length ≤ 0 + min i ps.length := h1
      omega
    refine wg_tup rfl <| wgs_cons <| wg_name <| wgs_cons <| wg_name <| wgs_nil ?_
    refine wx_seq <| wx_ifT <| wt_test <| we_op <| we_var rfl <| we_int <| ro_eqI ⟨_, rfl, fun h1 => ?_, fun h1 => wx_next ?_⟩
    · have ej : jStep s q = s := if_pos (of_decide_eq_true h1)
      exact wx_ws <| ws_cont ⟨⟨_, _, s, by rw [tk, ej], rfl, rfl⟩, rfl⟩
    have h1 := of_decide_eq_false h1
    refine wx_seq <| wx_ifT <| wt_test <| we_op <| we_var rfl <| we_var rfl <| ro_eqS ⟨_, rfl, fun h2 => ?_, fun h2 => wx_next ?_⟩
    · have ej : jStep s q = (s.1, s.2.1, s.2.2 + q.2) := by unfold jStep; rw [if_neg h1, if_pos (of_decide_eq_true h2)]
      refine wx_seq <| wx_ws <| ws_set <| we_op <| we_var rfl <| we_var rfl <| ro_i0 ?_
      exact wx_ws <| ws_cont ⟨⟨_, _, (s.1, s.2.1, s.2.2 + q.2), by rw [tk, ej], rfl, rfl⟩, rfl⟩
    have h2 := of_decide_eq_false h2
    have ej : jStep s q = (if s.2.2 > 0 then s.1 ++ [(s.2.1, s.2.2)] else s.1, q.1, q.2) := by unfold jStep; rw [if_neg h1, if_neg h2]
    refine wx_cut (fun ρ' O' B' => ρ' = [some (.at_ u (.lst (ps.map prD))), some (.val (.ref p)), some (.str s.2.1), some (.int s.2.2), some (.str q.1), some (.int q.2)] ∧ O' = [(p, .list ((if s.2.2 > 0 then s.1 ++ [(s.2.1, s.2.2)] else s.1).map prD))] ∧ B = B') ?_ ?_
    · refine wx_ifT <| wt_test <| we_op <| we_var rfl <| we_int <| ro_b0 ⟨_, rfl, fun h3 => ?_, fun h3 => ?_⟩
      · rw [if_pos (of_decide_eq_true h3), List.map_append]
        exact wx_app (n := 0) rfl rfl <| we_tup <| wa_cons <| we_var rfl <| wa_cons <| we_var rfl <| wa_nil ⟨z2, by rw [List.length_map]; omega, rfl, rfl, rfl⟩
      · rw [if_neg (of_decide_eq_false h3)]
        exact wx_next ⟨rfl, rfl, rfl⟩
    rintro _ _ _ ⟨rfl, rfl, rfl⟩
    exact wx_ws <| ws_par <| wa_cons <| we_var rfl <| wa_cons <| we_var rfl <| wa_nil ⟨_, _, rfl, ⟨⟨_, _, _, by rw [tk, ej], rfl, rfl⟩, rfl⟩⟩
  · obtain ⟨⟨o4, o5, s, es, rfl, rfl⟩, rfl⟩ := hI
    rw [List.length_map, List.take_length] at es
    have ls : s.1.length ≤ 1000000 := by
      have h1 := jFold_len ps ([], "", 0)
      rw [← es] at h1
      have h1 : s.1.length ≤ 0 + ps.length := h1
      omega
    have ee : joinF ps = jEnd s := by unfold joinF; rw [es]
    rw [ee] at hk
    refine wx_cut (fun ρ' O' B' => ρ' = [some (.at_ u (.lst (ps.map prD))), some (.val (.ref p)), some (.str s.2.1), some (.int s.2.2), o4, o5] ∧ O' = [(p, .list ((jEnd s).map prD))] ∧ B = B') ?_ ?_
    · unfold jEnd
      refine wx_ifT <| wt_test <| we_op <| we_var rfl <| we_int <| ro_b0 ⟨_, rfl, fun h3 => ?_, fun h3 => ?_⟩
      · rw [if_pos (of_decide_eq_true h3), List.map_append]
        exact wx_app (n := 0) rfl rfl <| we_tup <| wa_cons <| we_var rfl <| wa_cons <| we_var rfl <| wa_nil ⟨z2, by rw [List.length_map]; omega, rfl, rfl, rfl⟩
      · rw [if_neg (of_decide_eq_false h3)]
        exact wx_next ⟨rfl, rfl, rfl⟩
    rintro _ _ _ ⟨rfl, rfl, rfl⟩
    exact wx_tell (i := 1) rfl <| wx_ws <| ws_ret <| we_tupleL <| wa_cons <| we_var rfl <| wa_nil ⟨_, rfl, hk⟩
end
end AW

set_option linter.all false
set_option maxRecDepth 100000
set_option maxHeartbeats 8000000
namespace AW
open PySem PySem.Spec PyProof.Rows L2
variable [Tbs]
section
variable {P : Program} {w : World} {K : PySem.W.Frag} {mg : Str → Option Value} {base : Heap}
abbrev penF : D := .pen "mark" "rest"
def pr_l_begin (T : Tx K mg) : Pr := fun ds B k e => ∃ ns : List Int, ds = [.scr ns] ∧ ns.length ≤ 63 ∧ 0 ≤ B ∧ k penF B
theorem penD_E (c : Addr) (s r : Int) : penD c s r = penE "mark" "rest" c s r := rfl
theorem okD_l_begin (T : Tx K mg) : FnOk P w K mg base (L2.CX P w) 1 T.a_l_begin T.d_l_begin P_l_begin (spD K (pr_l_begin T)) :=
  (ok_l_begin T).imp fun vs H Q E ⟨G, ds, B, k, e, hs, hr, ⟨ns, ed, hl, hB, h⟩, hk, hx⟩ => by
    subst ed
    obtain ⟨v, _, rfl, ⟨hT, a, rfl, hS⟩, rfl⟩ := hr
    refine ⟨a, ns, rfl, (Le.of_sub (B := B) (B' := B) hs (Int.le_refl _)).seqL hS, hl, fun p c H' ss np nc ne hp hc => ?_⟩
    have none_of : ∀ q, H q = none → G q = none := fun q z => by
      cases w : G q with
      | none => rfl
      | some u => rw [hs _ _ w] at z; cases z
    have le : Le G B (upd (upd G p (.dK (penE "mark" "rest" c 0 0))) c (.lst (ns.map V.int))) B := Le.of_sub (fun b o z => by rw [upd_ne (ne_of_none z (none_of c nc)), upd_ne (ne_of_none z (none_of p np))]; exact z) (Int.le_refl _)
    refine hk penF _ B (upd (upd G p (.dK (penE "mark" "rest" c 0 0))) c (.lst (ns.map V.int))) H' h ⟨le, fun b o z => ?_, fun b o z n _ => ?_⟩ ⟨le.tb hT, p, c, ns, 0, 0, rfl, by rw [upd_ne ne.symm, upd_same], upd_same, hl, Int.le_refl _, hB⟩
    · by_cases h1 : b = c
      · subst h1; rw [upd_same] at z; cases z; exact hc
      · rw [upd_ne h1] at z
        by_cases h2 : b = p
        · subst h2; rw [upd_same] at z; cases z; exact hp
        · rw [upd_ne h2] at z; exact ss _ _ (hs _ _ z)
    · exact ⟨ss _ _ z, by rw [upd_ne (ne_of_none z nc), upd_ne (ne_of_none z np)]; exact n⟩
def pr_l_draw (T : Tx K mg) : Pr := fun ds B k e => ∃ n : Int, ds = [penF, .int n] ∧ 0 < n ∧ n < 1073741824 ∧ B ≤ 1000000 ∧ ∀ d, 0 ≤ d → d < n → k (.int d) (B + 1)
theorem okD_l_draw (T : Tx K mg) : FnOk P w K mg base (L2.CX P w) 1 T.a_l_draw T.d_l_draw P_l_draw (spD K (pr_l_draw T)) :=
  (ok_l_draw T).imp fun vs H Q E ⟨G, ds, B, k, e, hs, hr, ⟨n, ed, n0, n1, hB, h⟩, hk, hx⟩ => by
    subst ed
    obtain ⟨v, _, rfl, ⟨_, p, c, ns, s, r, rfl, gp, gc, hl, s0, s1⟩, u, _, rfl, ru, rfl⟩ := hr
    rw [show u = _ from ru]
    refine ⟨p, n, B, rfl, n0, n1, ⟨c, ns, s, r, hs _ _ gp, hs _ _ gc, hl, s0, s1⟩, hB, fun d H' hd bt hp => ?_⟩
    obtain ⟨c1, ns1, s', r', e1, e2, l1, b0, b1⟩ := hp.at_
    obtain ⟨s2, r2, e3⟩ := bt.cl c s r (hs _ _ gp)
    rw [e1] at e3
    have ec : c1 = c := by
      injection e3 with e3
      injection e3 with e3
      exact penD_inj e3
    subst ec
    have npc : c1 ≠ p := ne_of gc gp (by intro z; cases z)
    have nop : ∀ b o, G b = some o → ¬ IsPen o → b ≠ p := fun b o z n q => by
      subst q
      rw [gp] at z
      cases z
      exact n (.inl ⟨_, _, _, _, _, rfl⟩)
    refine hk (.int d) _ (B + 1) (upd G p (.dK (penD c1 s' r'))) H' (h d hd.1 hd.2) ⟨⟨by omega, fun b o z n => by rw [upd_ne (nop b o z n)]; exact z, fun b k l q x y z => ?_, fun hT z hz => ?_⟩, fun b o z => ?_, fun b o z n _ => ?_⟩ rfl
    · by_cases hb : b = p
      · subst hb
        rw [gp] at z
        injection z with z
        injection z with z
        unfold penE at z
        injection z with z1 z2
        injection z2 with z2 z3
        injection z3 with z3 z4
        injection z1 with _ z1
        injection z1 with z1
        injection z2 with z2 z5
        injection z2 with z2
        injection z3 with z3 z6
        injection z3 with z3
        subst z1 z2 z3
        exact ⟨s', r', upd_same, fun _ _ => ⟨b0, b1⟩⟩
      · exact ⟨x, y, by rw [upd_ne hb]; exact z, fun a b => ⟨a, by omega⟩⟩
    · obtain ⟨ps, h1, h2, h3⟩ := hT z hz
      refine ⟨ps, by rw [upd_ne (ne_of h1 gp (by intro z; cases z))]; exact h1, h2, fun pos cv hc => ?_⟩
      obtain ⟨c2, k1, k2⟩ := h3 pos cv hc
      exact ⟨c2, k1, by rw [upd_ne (ne_of k2 gp (by intro z; cases z))]; exact k2⟩
    · by_cases hb : b = p
      · subst hb; rw [upd_same] at z; cases z; exact e1
      · rw [upd_ne hb] at z; exact bt.st b o hb (hs _ _ z)
    · have hb : b ≠ p := fun q => by rw [q, gp] at n; cases n
      exact ⟨bt.st b o hb z, by rw [upd_ne hb]; exact n⟩
theorem bd0 {k : Nat} : Bd k 0 := Nat.pos_of_ne_zero (by have := Nat.one_le_two_pow (n := k); omega)
def pr_l_pick (T : Tx K mg) : Pr := fun ds B k e => ∃ xs : List D, ds = [penF, .lst xs] ∧ 0 < xs.length ∧ xs.length ≤ 1000000 ∧ B ≤ 1000000 ∧ ∀ d, d ∈ xs → k d (B + 1)
theorem okD_l_pick (T : Tx K mg) : FnOk P w K mg base (L2.CX P w) 2 T.a_l_pick T.d_l_pick P_l_pick (spD K (pr_l_pick T)) := by
  refine T.F_l_pick.okX sc_l_pick (spD_len fun ds B k e h => by obtain ⟨xs, rfl, h0, h1, hB, hk⟩ := h; rfl) (fun cdv A outer s H vs Q E hr h => ?_)
  have G_l_draw : FnOk P w K mg base (L2.CX P w) 1 _ _ _ _ := okD_l_draw T
  obtain ⟨G, ds, B, k, e, hs, hR, ⟨xs, rfl, h0, h1, hB, hk⟩, hK, hX⟩ := h
  refine ⟨_, (pss_one (ps_ret (pe_ix ix_list (pv 1) (pe_call G_l_draw (hr.mono (by decide)) (by rfl) T.g_l_draw T.F_l_draw.kp T.b_l_draw .nil passL (pa_cons (pv 0) (pa_cons (pe_callB call_len_seq (by rfl) T.n_len (by decide +kernel) (pa_cons (pv 1) pa_nil)) pa_nil))) (fun _ _ => rfl)))), run_body (ρ := [some penF, some (.lst xs)]) hs hR hK hX rfl ?_⟩
  refine (ws_ret (we_op (we_var rfl (we_call (wa_cons (we_var rfl (wa_cons (we_lenL (wa_cons (we_var rfl (wa_nil ⟨_, rfl, (wa_nil ⟨_, rfl, by omega, by omega, hB, fun d d0 d1 => ?_⟩)⟩)))))))))))
  obtain ⟨j, rfl⟩ := Int.eq_ofNat_of_zero_le d0
  have hj : j < xs.length := by omega
  exact ro_ixL (atI_nat (List.getElem?_eq_getElem hj)) (hk _ (List.getElem_mem hj))
def pr_l_number (T : Tx K mg) : Pr := fun ds B k e => ∃ g : Int, ds = [penF, .int g] ∧ 1 ≤ g ∧ g ≤ 14 ∧ B ≤ 900000 ∧ ∀ (i : Int) B', 0 ≤ i → Bd (25 * g.toNat) i → B' ≤ B + 1 + g → k (.int i) B'
theorem okD_l_number (T : Tx K mg) : FnOk P w K mg base (L2.CX P w) 3 T.a_l_number T.d_l_number P_l_number (spD K (pr_l_number T)) := by
  refine T.F_l_number.okX sc_l_number (spD_len fun ds B k e h => by obtain ⟨g, rfl, g0, g1, hB, hk⟩ := h; rfl) (fun cdv A outer s H vs Q E hr h => ?_)
  have G_l_draw : FnOk P w K mg base (L2.CX P w) 1 _ _ _ _ := okD_l_draw T
  obtain ⟨G, ds, B, k, e, hs, hR, ⟨g, rfl, g0, g1, hB, hk⟩, hK, hX⟩ := h
  refine ⟨_, (pss_cons (ps_set (i := 2) sc_l_number.nd rfl (.inl rfl) pe_int)
 (pss_cons (ps_for (passes_of rfl) rfl (pi_range1 (by rfl) T.n_range (pa_cons (pe_op op_add pe_int (pe_call G_l_draw (hr.mono (by decide)) (by rfl) T.g_l_draw T.F_l_draw.kp T.b_l_draw .nil passL (pa_cons (pv 0) (pa_cons (pv 1) pa_nil)))) pa_nil)) (pg_name (i := 3) sc_l_number.nd rfl (.inl rfl))
 (pss_one (ps_set (i := 2) sc_l_number.nd rfl (.inl rfl) (pe_op op_add (pe_op op_mulW (pv 2) (pe_op op_pow pe_int pe_int)) (pe_call G_l_draw (hr.mono (by decide)) (by rfl) T.g_l_draw T.F_l_draw.kp T.b_l_draw .nil passL (pa_cons (pv 0) (pa_cons (pe_op op_pow pe_int pe_int) pa_nil)))))))
 (pss_one (ps_ret (pv 2))))), run_body (ρ := [some penF, some (.int g), none, none]) hs hR hK hX rfl ?_⟩
  refine ws_seq (ws_set (we_int ?_))
  refine ws_cut (fun ρ' B' => (∃ f o, ρ' = [some penF, some (.int g), some (.int f), o] ∧ 0 ≤ f ∧ Bd (25 * g.toNat) f) ∧ B' ≤ B + 1 + g) ?_ ?_
  · refine ws_for_range1 (wa_cons (we_op (we_int (we_call (wa_cons (we_var rfl (wa_cons (we_var rfl (wa_nil ⟨_, rfl, by omega, by omega, by omega, fun d d0 d1 => ro_i0 (wa_nil ⟨_, rfl, by omega, by omega, fun i ρ' B' => (∃ f o, ρ' = [some penF, some (.int g), some (.int f), o] ∧ 0 ≤ f ∧ Bd (25 * i) f) ∧ B' ≤ B + 1 + i, ⟨⟨_, _, rfl, Int.le_refl _, bd0⟩, by omega⟩, fun i ρ' B' hi hI => ?_, fun ρ' B' hI => ?_⟩)⟩)))))))))
    · obtain ⟨⟨f, o, rfl, f0, bf⟩, hB'⟩ := hI
      have hi2 : i ≤ 13 := by omega
      refine wg_name ?_
      have bf2 : Bd 400 f := bf.mono (by omega)
      refine (ws_set (we_op (we_op (we_var rfl (we_op (we_int (we_int (ro_i ⟨by decide +kernel, by decide +kernel, by decide +kernel⟩ (ro_i (cmc (by apply Bd.mono; (repeat (first | assumption | exact Bd.lit 64 (by decide +kernel) | exact Bd.lit 2000 (by decide +kernel) | apply Bd.neg | apply Bd.fdiv | apply Bd.mul | apply Bd.add2 | apply Bd.sub2)); decide) (by apply Bd.mono; (repeat (first | assumption | exact Bd.lit 64 (by decide +kernel) | exact Bd.lit 2000 (by decide +kernel) | apply Bd.neg | apply Bd.fdiv | apply Bd.mul | apply Bd.add2 | apply Bd.sub2)); decide)) (we_call (wa_cons (we_var rfl (wa_cons (we_op (we_int (we_int (ro_i ⟨by decide +kernel, by decide +kernel, by decide +kernel⟩ (wa_nil ⟨_, rfl, by decide +kernel, by decide +kernel, by omega, fun c c0 c1 => (ro_i0 ?_)⟩))))))))))))))))))
      have e10 : (10 : Int) ^ (7 : Int).toNat = 10000000 := by decide
      rw [e10] at c1 ⊢
      refine ⟨⟨_, _, rfl, by omega, ?_⟩, by omega⟩
      unfold Bd at *
      have p : (2 : Nat) ^ (25 * (i + 1)) = 2 ^ (25 * i) * 33554432 := by rw [Nat.mul_add, Nat.pow_add]
      rw [p]
      omega
    · obtain ⟨⟨f, o, rfl, f0, bf⟩, hB'⟩ := hI
      exact ⟨⟨_, _, rfl, f0, bf.mono (by omega)⟩, by omega⟩
  rintro _ B9 ⟨⟨f, o, rfl, f0, bf⟩, hB9⟩
  exact ws_ret (we_var rfl (hk _ _ f0 bf hB9))
theorem bd9 {d : Int} {m : Nat} (h0 : 0 ≤ d) (h1 : d < 9) (hm : 4 ≤ m) : Bd m d := Nat.lt_of_lt_of_le (by omega : d.natAbs < 2 ^ 4) (Nat.pow_le_pow_right (by decide) hm)
def pr_l_great (T : Tx K mg) : Pr := fun ds B k e => ds = [penF] ∧ B ≤ 800000 ∧ ∀ (i : Int) B', 0 ≤ i → Bd 100 i → B' ≤ B + 6 → k (.int i) B'
theorem okD_l_great (T : Tx K mg) : FnOk P w K mg base (L2.CX P w) 4 T.a_l_great T.d_l_great P_l_great (spD K (pr_l_great T)) := by
  refine T.F_l_great.okX sc_l_great (spD_len fun ds B k e h => by obtain ⟨rfl, hB, hk⟩ := h; rfl) (fun cdv A outer s H vs Q E hr h => ?_)
  have G_l_draw : FnOk P w K mg base (L2.CX P w) 1 _ _ _ _ := okD_l_draw T
  have G_l_number : FnOk P w K mg base (L2.CX P w) 3 _ _ _ _ := okD_l_number T
  obtain ⟨G, ds, B, k, e, hs, hR, ⟨rfl, hB, hk⟩, hK, hX⟩ := h
  refine ⟨_, (pss_one (ps_ret (pe_ifExp (pt_cmpR op_eq (pe_call G_l_draw (hr.mono (by decide)) (by rfl) T.g_l_draw T.F_l_draw.kp T.b_l_draw .nil passL (pa_cons (pv 0) (pa_cons pe_int pa_nil))) pe_int (nomark _)) (pe_call G_l_draw (hr.mono (by decide)) (by rfl) T.g_l_draw T.F_l_draw.kp T.b_l_draw .nil passL (pa_cons (pv 0) (pa_cons pe_int pa_nil))) (pe_call G_l_number (hr.mono (by decide)) (by rfl) T.g_l_number T.F_l_number.kp T.b_l_number .nil passL (pa_cons (pv 0) (pa_cons pe_int pa_nil)))))), run_body (ρ := [some penF]) hs hR hK hX rfl ?_⟩
  refine ws_ret <| we_ifE <| wt_test <| we_op <| we_call <| wa_cons <| we_var rfl <| wa_cons <| we_int <| wa_nil ⟨4, rfl, by decide, by decide, by omega, fun d d0 d1 => we_int <| ro_eqI ⟨_, rfl, fun _ => ?_, fun _ => ?_⟩⟩
  · exact we_call <| wa_cons <| we_var rfl <| wa_cons <| we_int <| wa_nil ⟨9, rfl, by decide, by decide, by omega, fun d d0 d1 => hk d _ d0 (bd9 d0 d1 (by decide)) (by omega)⟩
  · exact we_call <| wa_cons <| we_var rfl <| wa_cons <| we_int <| wa_nil ⟨4, rfl, by decide, by decide, by omega, fun i B' i0 bi hB' => hk i B' i0 bi (by omega)⟩
end
end AW

set_option linter.all false
set_option maxHeartbeats 2000000
namespace AW
open PySem PySem.Spec PyProof.Rows L2
/-! rounds of king steps -/
abbrev KV := Int × Int
def kgS (s : Int × Int × Int) (p : KV × Int) : Int × Int × Int := (s.1 + p.2 * p.1.1, s.2.1 + p.2 * p.1.2, s.2.2 + p.2 * (s.1 * p.1.2 - s.2.1 * p.1.1))
def kgF (ps : List (KV × Int)) : Int × Int × Int := ps.foldl kgS (0, 0, 0)
def kgM (n : Int) : Int := if n % 2 = 1 then (n * n - 5) / 4 else n * n / 4 - (n / 2) % 2
/-- the even round, sides w and h -/
def kgE (w h c s l : Int) : List (KV × Int) := [((1, 1), w - c - s), ((0, 1), c), ((1, 1), s), ((-1, 1), l), ((0, 1), c), ((-1, 1), h - c - l), ((-1, -1), w), ((1, -1), h)]
def kgO (w h s l : Int) : List (KV × Int) := [((1, 1), w - s), ((0, 1), 1), ((1, 1), s), ((-1, 1), h - 1), ((-1, -1), l), ((-1, 0), 1), ((-1, -1), w - l), ((1, -1), h)]
theorem mul4 (a b : Int) : 2 * a * (2 * b) = 4 * (a * b) := by rw [Int.mul_assoc, Int.mul_left_comm a 2 b, ← Int.mul_assoc]; rfl
theorem kgE_ok (w h c s l : Int) (hc : c * c = c) (hs : c * s = s) (hl : c * l = l) : kgF (kgE w h c s l) = (0, 0, 4 * (w * h) - 2 * (c + s + l)) := by
  simp only [kgF, kgE, List.foldl_cons, List.foldl_nil, kgS]
  refine Prod.ext ?_ (Prod.ext ?_ ?_)
  · show _ = (0 : Int); simp only [Int.mul_one, Int.one_mul, Int.mul_zero, Int.mul_neg]; omega
  · show _ = (0 : Int); simp only [Int.mul_one, Int.one_mul, Int.mul_zero, Int.mul_neg]; omega
  · show _ = 4 * (w * h) - 2 * (c + s + l)
    have e1 : h * w = w * h := Int.mul_comm _ _
    have e2 : s * c = s := by rw [Int.mul_comm]; exact hs
    have e3 : l * c = l := by rw [Int.mul_comm]; exact hl
    have e4 := Int.mul_comm w c
    have e5 := Int.mul_comm h c
    have e6 := Int.mul_comm w s
    have e7 := Int.mul_comm w l
    have e8 := Int.mul_comm h s
    have e9 := Int.mul_comm h l
    have e10 := Int.mul_comm s l
    simp only [Int.mul_one, Int.one_mul, Int.mul_zero, Int.zero_mul, Int.mul_neg, Int.neg_mul, Int.mul_add, Int.add_mul, Int.mul_sub, Int.sub_mul, Int.add_zero, Int.zero_add, Int.sub_neg] at *
    omega
theorem kgO_ok (w h s l : Int) : kgF (kgO w h s l) = (0, 0, 4 * (w * h) + 2 * h - 1 - 2 * (s + l)) := by
  simp only [kgF, kgO, List.foldl_cons, List.foldl_nil, kgS]
  refine Prod.ext ?_ (Prod.ext ?_ ?_)
  · show _ = (0 : Int); simp only [Int.mul_one, Int.one_mul, Int.mul_zero, Int.mul_neg]; omega
  · show _ = (0 : Int); simp only [Int.mul_one, Int.one_mul, Int.mul_zero, Int.mul_neg]; omega
  · show _ = 4 * (w * h) + 2 * h - 1 - 2 * (s + l)
    have e1 : h * w = w * h := Int.mul_comm _ _
    have e6 := Int.mul_comm w s
    have e7 := Int.mul_comm w l
    have e8 := Int.mul_comm h s
    have e9 := Int.mul_comm h l
    have e10 := Int.mul_comm s l
    simp only [Int.mul_one, Int.one_mul, Int.mul_zero, Int.zero_mul, Int.mul_neg, Int.neg_mul, Int.mul_add, Int.add_mul, Int.mul_sub, Int.sub_mul, Int.add_zero, Int.zero_add, Int.sub_neg] at *
    omega
/-- turned over: east and west in place of one another -/
def kgX (p : KV × Int) : KV × Int := ((-p.1.1, p.1.2), p.2)
theorem kgX_fold : ∀ (ps : List (KV × Int)) (x y a : Int), (ps.map kgX).foldl kgS (-x, y, -a) = (-(ps.foldl kgS (x, y, a)).1, (ps.foldl kgS (x, y, a)).2.1, -(ps.foldl kgS (x, y, a)).2.2)
  | [], _, _, _ => rfl
  | p :: ps, x, y, a => by
    rw [List.map_cons, List.foldl_cons, List.foldl_cons]
    have : kgS (-x, y, -a) (kgX p) = (-(kgS (x, y, a) p).1, (kgS (x, y, a) p).2.1, -(kgS (x, y, a) p).2.2) := by
      obtain ⟨⟨u, v⟩, t⟩ := p
      show ((-x + t * -u, y + t * v, -a + t * (-x * v - y * -u)) : Int × Int × Int) = (-(x + t * u), y + t * v, -(a + t * (x * v - y * u)))
      refine Prod.ext ?_ (Prod.ext rfl ?_)
      · show -x + t * -u = -(x + t * u); rw [Int.mul_neg]; omega
      · show -a + t * (-x * v - y * -u) = -(a + t * (x * v - y * u))
        rw [Int.neg_mul, Int.mul_neg, show -(x * v) - -(y * u) = -(x * v - y * u) by omega, Int.mul_neg]; omega
    rw [this, kgX_fold ps]
theorem kgX_ok (ps : List (KV × Int)) : kgF (ps.map kgX) = (-(kgF ps).1, (kgF ps).2.1, -(kgF ps).2.2) := by
  have := kgX_fold ps 0 0 0
  simpa [kgF] using this
/-- straight out and back adds nothing -/
theorem kg_spare (t : Int) (ps : List (KV × Int)) : kgF (((1, 0), t) :: ((-1, 0), t) :: ps) = kgF ps := by
  show ps.foldl kgS (kgS (kgS (0, 0, 0) ((1, 0), t)) ((-1, 0), t)) = ps.foldl kgS (0, 0, 0)
  congr 1
  simp only [kgS, Int.zero_mul, Int.mul_zero, Int.mul_one, Int.zero_add, Int.sub_zero, Int.mul_neg]
  refine Prod.ext (by show t + -t = 0; omega) (Prod.ext rfl (by show t * (0 - -0) = 0; simp))
/-- the most that a round of n steps sweeps, by its sides -/
theorem most_even {n : Int} (h : n % 2 = 0) : kgM n = 4 * (n / 4 * (n / 2 - n / 4)) := by
  obtain ⟨m, rfl⟩ : ∃ m, n = 2 * m := ⟨n / 2, by omega⟩
  unfold kgM
  rw [if_neg (by omega), show 2 * m / 2 = m by omega, show 2 * m / 4 = m / 2 by omega]
  have e : 2 * m * (2 * m) = 4 * (m * m) := mul4 m m
  rw [e, show 4 * (m * m) / 4 = m * m by omega]
  rcases Int.emod_two_eq m with g | g
  · obtain ⟨k, rfl⟩ : ∃ k, m = 2 * k := ⟨m / 2, by omega⟩
    rw [show 2 * k / 2 = k by omega, show 2 * k - k = k by omega, g, mul4]
    omega
  · obtain ⟨k, rfl⟩ : ∃ k, m = 2 * k + 1 := ⟨m / 2, by omega⟩
    rw [show (2 * k + 1) / 2 = k by omega, show 2 * k + 1 - k = k + 1 by omega, g, Int.mul_add, Int.add_mul, mul4, Int.mul_add]
    omega
theorem most_odd {n : Int} (h : n % 2 = 1) : kgM n = 4 * (n / 4 * (n / 2 - n / 4)) + 2 * (n / 2 - n / 4) - 1 := by
  obtain ⟨m, rfl⟩ : ∃ m, n = 2 * m + 1 := ⟨n / 2, by omega⟩
  unfold kgM
  rw [if_pos h, show (2 * m + 1) / 2 = m by omega, show (2 * m + 1) / 4 = m / 2 by omega]
  have e : (2 * m + 1) * (2 * m + 1) = 4 * (m * m) + 4 * m + 1 := by rw [Int.mul_add, Int.add_mul, mul4]; omega
  rw [e]
  rcases Int.emod_two_eq m with g | g
  · obtain ⟨k, rfl⟩ : ∃ k, m = 2 * k := ⟨m / 2, by omega⟩
    rw [show 2 * k / 2 = k by omega, show 2 * k - k = k by omega, mul4]
    omega
  · obtain ⟨k, rfl⟩ : ∃ k, m = 2 * k + 1 := ⟨m / 2, by omega⟩
    have e2 : (2 * k + 1) * (2 * k + 1) = 4 * (k * k) + 4 * k + 1 := by rw [Int.mul_add, Int.add_mul, mul4]; omega
    rw [show (2 * k + 1) / 2 = k by omega, show 2 * k + 1 - k = k + 1 by omega, e2, Int.mul_add k k 1]
    omega
/-- the fewest steps, r the root that the program takes -/
def fkI (s r : Int) : Int := if s % 2 = 1 then (if r % 2 = 0 then r + 1 else r + 2) else if s > 0 then 2 * (r + 1) else 0
def Rt (r N : Int) : Prop := 0 ≤ r ∧ r * r ≤ N ∧ N < (r + 1) * (r + 1)
theorem sq_lt {a b : Int} (ha : 0 ≤ a) (h : a < b) : a * a < b * b := Int.lt_of_le_of_lt (Int.mul_le_mul_of_nonneg_left (Int.le_of_lt h) ha) (Int.mul_lt_mul_of_pos_right h (by omega))
theorem sq_le {a b : Int} (ha : 0 ≤ a) (h : a ≤ b) : a * a ≤ b * b := Int.mul_le_mul h h ha (by omega)
theorem Rt.lt {r N m : Int} (h : Rt r N) (hm : 0 ≤ m) : r < m ↔ N < m * m := by
  constructor
  · intro g
    have := sq_le (a := r + 1) (b := m) (by have := h.1; omega) (by omega)
    have := h.2.2
    omega
  · intro g
    apply Int.not_le.mp
    intro c
    have := sq_le hm c
    have := h.2.1
    omega
theorem fk_par {s r : Int} (s0 : 0 ≤ s) : fkI s r % 2 = s % 2 := by
  unfold fkI
  split
  · split <;> omega
  · split <;> omega
theorem fk_le {s r n : Int} (s0 : 0 ≤ s) (ho : s % 2 = 1 → Rt r (4 * s + 4)) (he : s % 2 = 0 → 0 < s → Rt r (s - 1)) (n0 : 0 ≤ n) (hp : n % 2 = s % 2) : fkI s r ≤ n ↔ s ≤ kgM n := by
  unfold fkI
  by_cases h : s % 2 = 1
  · rw [if_pos h]
    obtain ⟨m, rfl⟩ : ∃ m, n = 2 * m + 1 := ⟨n / 2, by omega⟩
    have hr := ho h
    have r0 := hr.1
    have k1 : (if r % 2 = 0 then r + 1 else r + 2) ≤ 2 * m + 1 ↔ r < 2 * m + 1 := by split <;> omega
    rw [k1, hr.lt (by omega)]
    have e : (2 * m + 1) * (2 * m + 1) = 4 * (m * m) + 4 * m + 1 := by rw [Int.mul_add, Int.add_mul, mul4]; omega
    have k2 : kgM (2 * m + 1) = m * m + m - 1 := by
      unfold kgM
      rw [if_pos (by omega), e]
      omega
    rw [k2, e]
    omega
  · rw [if_neg h]
    have h0 : s % 2 = 0 := by omega
    obtain ⟨m, rfl⟩ : ∃ m, n = 2 * m := ⟨n / 2, by omega⟩
    have k2 : kgM (2 * m) = m * m - m % 2 := by
      unfold kgM
      rw [if_neg (by omega), mul4]
      omega
    have mm : (m * m) % 2 = m % 2 := by
      rcases Int.emod_two_eq m with g | g
      · obtain ⟨k, rfl⟩ : ∃ k, m = 2 * k := ⟨m / 2, by omega⟩
        rw [mul4]; omega
      · obtain ⟨k, rfl⟩ : ∃ k, m = 2 * k + 1 := ⟨m / 2, by omega⟩
        rw [show (2 * k + 1) * (2 * k + 1) = 4 * (k * k) + 4 * k + 1 by rw [Int.mul_add, Int.add_mul, mul4]; omega]
        omega
    have m0 := Int.mul_nonneg (show 0 ≤ m by omega) (show 0 ≤ m by omega)
    rw [k2]
    split
    · rename_i hs
      have hr := he h0 hs
      have k3 : 2 * (r + 1) ≤ 2 * m ↔ r < m := by omega
      rw [k3, hr.lt (by omega)]
      omega
    · omega
theorem odd_pr (m : Int) : (m * m + m) % 2 = 0 := by
  rcases Int.emod_two_eq m with g | g
  · obtain ⟨k, rfl⟩ : ∃ k, m = 2 * k := ⟨m / 2, by omega⟩
    rw [mul4]; omega
  · obtain ⟨k, rfl⟩ : ∃ k, m = 2 * k + 1 := ⟨m / 2, by omega⟩
    rw [show (2 * k + 1) * (2 * k + 1) = 4 * (k * k) + 4 * k + 1 by rw [Int.mul_add, Int.add_mul, mul4]; omega]
    omega
theorem most_of_sq {A N : Int} (n0 : 0 ≤ N) (h : 4 * A ≤ N * N) (hp : A % 2 = N % 2) : A ≤ kgM N := by
  unfold kgM
  by_cases g : N % 2 = 1
  · rw [if_pos g]
    obtain ⟨m, rfl⟩ : ∃ m, N = 2 * m + 1 := ⟨N / 2, by omega⟩
    have e : (2 * m + 1) * (2 * m + 1) = 4 * (m * m) + 4 * m + 1 := by rw [Int.mul_add, Int.add_mul, mul4]; omega
    have o := odd_pr m
    rw [e] at h ⊢
    generalize m * m = q at *
    omega
  · rw [if_neg g]
    obtain ⟨m, rfl⟩ : ∃ m, N = 2 * m := ⟨N / 2, by omega⟩
    have o := odd_pr m
    rw [mul4] at h ⊢
    rw [show 2 * m / 2 = m by omega]
    generalize m * m = q at *
    omega
theorem sq_nn (a : Int) : 0 ≤ a * a := by
  rcases Int.le_total 0 a with h | h
  · exact Int.mul_nonneg h h
  · have := Int.mul_nonneg (show 0 ≤ -a by omega) (show 0 ≤ -a by omega)
    rwa [Int.neg_mul_neg] at this
/-- the oblong with cut corners: its swept area and its steps -/
def kgB (W H a b c d : Int) : List (KV × Int) := [((1, 0), W - d - a), ((1, 1), a), ((0, 1), H - a - b), ((-1, 1), b), ((-1, 0), W - b - c), ((-1, -1), c), ((0, -1), H - c - d), ((1, -1), d)]
theorem kgB_ok (W H a b c d : Int) : kgF (kgB W H a b c d) = (0, 0, 2 * (W * H) - (a * a + b * b + c * c + d * d)) := by
  simp only [kgF, kgB, List.foldl_cons, List.foldl_nil, kgS]
  refine Prod.ext ?_ (Prod.ext ?_ ?_)
  · show _ = (0 : Int); simp only [Int.mul_one, Int.one_mul, Int.mul_zero, Int.mul_neg]; omega
  · show _ = (0 : Int); simp only [Int.mul_one, Int.one_mul, Int.mul_zero, Int.mul_neg]; omega
  · show _ = 2 * (W * H) - (a * a + b * b + c * c + d * d)
    have e1 := Int.mul_comm H W
    have e2 := Int.mul_comm a W
    have e3 := Int.mul_comm b W
    have e4 := Int.mul_comm c W
    have e5 := Int.mul_comm d W
    have e6 := Int.mul_comm a H
    have e7 := Int.mul_comm b H
    have e8 := Int.mul_comm c H
    have e9 := Int.mul_comm d H
    have f1 := Int.mul_comm b a
    have f2 := Int.mul_comm c a
    have f3 := Int.mul_comm d a
    have f4 := Int.mul_comm c b
    have f5 := Int.mul_comm d b
    have f6 := Int.mul_comm d c
    simp only [Int.mul_one, Int.one_mul, Int.mul_zero, Int.zero_mul, Int.mul_neg, Int.neg_mul, Int.mul_add, Int.add_mul, Int.mul_sub, Int.sub_mul, Int.add_zero, Int.zero_add, Int.sub_neg] at *
    omega
theorem kgB_most {W H a b c d t : Int} (hW : 0 ≤ W) (hH : 0 ≤ H) (ha : 0 ≤ a ∧ 2 * a ≤ W ∧ 2 * a ≤ H) (hb : 0 ≤ b ∧ 2 * b ≤ W ∧ 2 * b ≤ H) (hc : 0 ≤ c ∧ 2 * c ≤ W ∧ 2 * c ≤ H) (hd : 0 ≤ d ∧ 2 * d ≤ W ∧ 2 * d ≤ H) (ht : 0 ≤ t) :
    0 ≤ 2 * (W * H) - (a * a + b * b + c * c + d * d) ∧ 2 * (W * H) - (a * a + b * b + c * c + d * d) ≤ kgM (2 * W + 2 * H - (a + b + c + d) + 2 * t) := by
  have q : ∀ x : Int, 0 ≤ x ∧ 2 * x ≤ W ∧ 2 * x ≤ H → 4 * (x * x) ≤ W * H := fun x hx => by
    rw [← mul4]
    exact Int.mul_le_mul hx.2.1 hx.2.2 (by omega) hW
  have qa := q a ha
  have qb := q b hb
  have qc := q c hc
  have qd := q d hd
  have p0 := Int.mul_nonneg hW hH
  refine ⟨by omega, most_of_sq (by omega) ?_ ?_⟩
  · have n0 : (2 * W + 2 * H - (a + b + c + d)) * (2 * W + 2 * H - (a + b + c + d)) ≤ (2 * W + 2 * H - (a + b + c + d) + 2 * t) * (2 * W + 2 * H - (a + b + c + d) + 2 * t) := sq_le (by omega) (by omega)
    refine Int.le_trans ?_ n0
    have s1 := sq_nn (2 * W - (a + b + c + d))
    have s2 := sq_nn (2 * H - (a + b + c + d))
    have d1 := sq_nn (a - b)
    have d2 := sq_nn (a - c)
    have d3 := sq_nn (a - d)
    have d4 := sq_nn (b - c)
    have d5 := sq_nn (b - d)
    have d6 := sq_nn (c - d)
    clear n0 q qa qb qc qd
    have e1 := Int.mul_comm H W
    have e2 := Int.mul_comm a W
    have e3 := Int.mul_comm b W
    have e4 := Int.mul_comm c W
    have e5 := Int.mul_comm d W
    have e6 := Int.mul_comm a H
    have e7 := Int.mul_comm b H
    have e8 := Int.mul_comm c H
    have e9 := Int.mul_comm d H
    have f1 := Int.mul_comm b a
    have f2 := Int.mul_comm c a
    have f3 := Int.mul_comm d a
    have f4 := Int.mul_comm c b
    have f5 := Int.mul_comm d b
    have f6 := Int.mul_comm d c
    simp only [Int.mul_add, Int.add_mul, Int.mul_sub, Int.sub_mul, Int.mul_assoc, Int.mul_left_comm _ (2 : Int)] at *
    omega
  · have o1 := odd_pr a
    have o2 := odd_pr b
    have o3 := odd_pr c
    have o4 := odd_pr d
    generalize W * H = z at *
    generalize a * a = z1 at *
    generalize b * b = z2 at *
    generalize c * c = z3 at *
    generalize d * d = z4 at *
    omega
/-- out and back in the midst -/
theorem kg_back (xs ys : List (KV × Int)) (u v t : Int) : kgF (xs ++ ((u, v), t) :: ((-u, -v), t) :: ys) = kgF (xs ++ ys) := by
  unfold kgF
  rw [List.foldl_append, List.foldl_append, List.foldl_cons, List.foldl_cons]
  congr 1
  obtain ⟨x, y, a⟩ := xs.foldl kgS (0, 0, 0)
  simp only [kgS]
  refine Prod.ext ?_ (Prod.ext ?_ ?_)
  · show x + t * u + t * -u = x; rw [Int.mul_neg]; omega
  · show y + t * v + t * -v = y; rw [Int.mul_neg]; omega
  · show a + t * (x * v - y * u) + t * ((x + t * u) * -v - (y + t * v) * -u) = a
    have : (x + t * u) * -v - (y + t * v) * -u = -(x * v - y * u) := by
      have e := Int.mul_right_comm t u v
      rw [Int.mul_neg, Int.mul_neg, Int.add_mul, Int.add_mul, e]
      omega
    rw [this, Int.mul_neg]
    omega
theorem nat_or1 (n : Nat) : n ||| 1 = if n % 2 = 1 then n else n + 1 := by
  split
  · rename_i h
    have : n = 2 * (n / 2) + 1 := by omega
    apply Nat.eq_of_testBit_eq
    intro i
    rw [Nat.testBit_or]
    cases i with
    | zero => simp [Nat.testBit_zero, h]
    | succ i => simp [Nat.testBit_succ]
  · rename_i h
    have h0 : n % 2 = 0 := by omega
    apply Nat.eq_of_testBit_eq
    intro i
    rw [Nat.testBit_or]
    cases i with
    | zero => simp [Nat.testBit_zero, h0]; omega
    | succ i => 
      rw [Nat.testBit_succ, Nat.testBit_succ, Nat.testBit_succ, show (n + 1) / 2 = n / 2 by omega]; simp
end AW

set_option linter.all false
set_option maxRecDepth 100000
set_option maxHeartbeats 8000000
namespace AW
open PySem PySem.Spec PyProof.Rows L2
variable [Tbs]
section
variable {P : Program} {w : World} {K : PySem.W.Frag} {mg : Str → Option Value} {base : Heap} [CDict K w "STRIDES" L_STRIDES]
def wayV (c : Str) : KV := (if c = "e" ∨ c = "ne" ∨ c = "se" then 1 else if c = "w" ∨ c = "nw" ∨ c = "sw" then -1 else 0, if c = "n" ∨ c = "ne" ∨ c = "nw" then 1 else if c = "s" ∨ c = "se" ∨ c = "sw" then -1 else 0)
def ways : List Str := ["e", "ne", "n", "nw", "w", "sw", "s", "se"]
theorem mem_ways {c : Str} (h : c ∈ ways) : c = "e" ∨ c = "ne" ∨ c = "n" ∨ c = "nw" ∨ c = "w" ∨ c = "sw" ∨ c = "s" ∨ c = "se" := by simpa [ways] using h
theorem look_way {c : Str} (h : c ∈ ways) : L_STRIDES.lookup c = some ([(wayV c).1, (wayV c).2].map V.int) := by
  rcases mem_ways h with rfl | rfl | rfl | rfl | rfl | rfl | rfl | rfl <;> decide +kernel
abbrev wvF (ps : List Rn) : List (KV × Int) := ps.map fun p => (wayV p.1, p.2)
/-- runs of king steps: the ways, counts not below 0 -/
def GoodK (ps : List Rn) : Prop := ∀ p ∈ ps, p.1 ∈ ways ∧ 0 ≤ p.2
abbrev t3D (p : Int × Int × Int) : D := .tup [.int p.1, .int p.2.1, .int p.2.2]
theorem wv_take {ps : List Rn} {i : Nat} {q : Rn} (h : ps[i]? = some q) : kgF (wvF (ps.take (i + 1))) = kgS (kgF (wvF (ps.take i))) (wayV q.1, q.2) := by
  rw [List.take_add_one, h, Option.toList_some]
  show (((ps.take i ++ [q]).map fun p : Rn => (wayV p.1, p.2)).foldl kgS (0, 0, 0)) = _
  rw [List.map_append, List.foldl_append]
  rfl
/-- every count, and every place on the way, within 2^3000 -/
def BdK (ps : List Rn) : Prop := (∀ p ∈ ps, Bd 3000 p.2) ∧ ∀ i, Bd 3000 (kgF (wvF (ps.take i))).1 ∧ Bd 3000 (kgF (wvF (ps.take i))).2.1
theorem way1 (c : Str) : Bd 2 (wayV c).1 ∧ Bd 2 (wayV c).2 := by
  unfold wayV Bd
  constructor
  · dsimp only; split
    · decide
    · split <;> decide
  · dsimp only; split
    · decide
    · split <;> decide
theorem cmw {i j : Int} (h : Bd 8000 i) (g : Bd 8000 j) : CMulW i j := big_mul (h.mono (by decide)) (g.mono (by decide))
def pr_king_figures (T : Tx K mg) : Pr := fun ds B k e => ∃ (b : Bool) (ps : List Rn), ds = [seqD b (ps.map prD)] ∧ GoodK ps ∧ BdK ps ∧ k (t3D (kgF (wvF ps))) B
theorem okD_king_figures (T : Tx K mg) : FnOk P w K mg base (L2.CX P w) 1 T.a_king_figures T.d_king_figures P_king_figures (spD K (pr_king_figures T)) := by
  refine T.F_king_figures.okX sc_king_figures (spD_len fun ds B k e h => by obtain ⟨b, ps, rfl, hg, hb, hk⟩ := h; rfl) (fun cdv A outer s H vs Q E hr h => ?_)
  obtain ⟨G, ds, B, k, e, hs, hR, ⟨b, ps, rfl, hg, hb, hk⟩, hK, hX⟩ := h
  refine ⟨_, (pss_cons (ps_asg (pe_tup (pa_cons pe_int (pa_cons pe_int (pa_cons pe_int pa_nil)))) (pg_tup rfl (pgs_cons (pg_name (i := 1) sc_king_figures.nd rfl (.inl rfl)) (pgs_cons (pg_name (i := 2) sc_king_figures.nd rfl (.inl rfl)) (pgs_cons (pg_name (i := 3) sc_king_figures.nd rfl (.inl rfl)) pgs_nil)))))
 (pss_cons (ps_for (passes_of rfl) rfl (pi_or (pi_list (pv 0)) (pi_tup (pv 0))) (pg_tup rfl (pgs_cons (pg_name (i := 4) sc_king_figures.nd rfl (.inl rfl)) (pgs_cons (pg_name (i := 5) sc_king_figures.nd rfl (.inl rfl)) pgs_nil)))
 (pss_cons (ps_asg (pe_cdict (cd := (inferInstance : CDict K w "STRIDES" L_STRIDES)) (by decide) (by rfl) T.ns_STRIDES T.gc_STRIDES (pv 4) (fun _ _ => rfl)) (pg_tup rfl (pgs_cons (pg_name (i := 6) sc_king_figures.nd rfl (.inl rfl)) (pgs_cons (pg_name (i := 7) sc_king_figures.nd rfl (.inl rfl)) pgs_nil))))
 (pss_cons (ps_set (i := 3) sc_king_figures.nd rfl (.inl rfl) (pe_op op_add (pv 3) (pe_op op_mulW (pv 5) (pe_op op_sub (pe_op op_mulW (pv 1) (pv 7)) (pe_op op_mulW (pv 2) (pv 6))))))
 (pss_cons (ps_set (i := 1) sc_king_figures.nd rfl (.inl rfl) (pe_op op_add (pv 1) (pe_op op_mulW (pv 5) (pv 6))))
 (pss_one (ps_set (i := 2) sc_king_figures.nd rfl (.inl rfl) (pe_op op_add (pv 2) (pe_op op_mulW (pv 5) (pv 7)))))))))
 (pss_one (ps_ret (pe_tup (pa_cons (pv 1) (pa_cons (pv 2) (pa_cons (pv 3) pa_nil)))))))), run_body (ρ := [some (seqD b (ps.map prD)), none, none, none, none, none, none, none]) hs hR hK hX rfl ?_⟩
  have z3 : 3 ≤ sizeLine := by decide
  refine ws_seq <| ws_asg <| we_tup <| wa_cons <| we_int <| wa_cons <| we_int <| wa_cons <| we_int <| wa_nil ⟨z3, wg_tup rfl <| wgs_cons <| wg_name <| wgs_cons <| wg_name <| wgs_cons <| wg_name <| wgs_nil ?_⟩
  refine ws_cut (fun ρ' B' => ∃ o4 o5 o6 o7, ρ' = [some (seqD b (ps.map prD)), some (.int (kgF (wvF ps)).1), some (.int (kgF (wvF ps)).2.1), some (.int (kgF (wvF ps)).2.2), o4, o5, o6, o7] ∧ B = B') ?_ ?_
  · refine ws_for_seq b <| we_var rfl ⟨_, rfl, fun i ρ' B' => ∃ o4 o5 o6 o7, ρ' = [some (seqD b (ps.map prD)), some (.int (kgF (wvF (ps.take i))).1), some (.int (kgF (wvF (ps.take i))).2.1), some (.int (kgF (wvF (ps.take i))).2.2), o4, o5, o6, o7] ∧ B = B', ⟨_, _, _, _, rfl, rfl⟩, fun i d ρ' B' hi hI => ?_, fun ρ' B' hI => ?_⟩
    · obtain ⟨o4, o5, o6, o7, rfl, rfl⟩ := hI
      rw [List.getElem?_map] at hi
      obtain ⟨q, hq, rfl⟩ := Option.map_eq_some_iff.mp hi
      have hm := List.mem_of_getElem? hq
      have hw := look_way (hg q hm).1
      obtain ⟨b1, b2⟩ := way1 q.1
      obtain ⟨c1, c2⟩ := hb.2 i
      have bt := hb.1 q hm
      have hst := wv_take hq
      generalize kgF (wvF (ps.take i)) = s at c1 c2 hst
      obtain ⟨x, y, a⟩ := s
      generalize wayV q.1 = v at hw b1 b2 hst
      obtain ⟨u, v⟩ := v
      dsimp only at c1 c2 b1 b2
      have m1 : CMulW x v := cmw (c1.mono (by decide)) (b2.mono (by decide))
      have m2 : CMulW y u := cmw (c2.mono (by decide)) (b1.mono (by decide))
      have m3 : CMulW q.2 (x * v - y * u) := cmw (bt.mono (by decide)) ((((c1.mul b2).sub (c2.mul b1))).mono (by decide))
      have m4 : CMulW q.2 u := cmw (bt.mono (by decide)) (b1.mono (by decide))
      have m5 : CMulW q.2 v := cmw (bt.mono (by decide)) (b2.mono (by decide))
      refine wg_tup rfl <| wgs_cons <| wg_name <| wgs_cons <| wg_name <| wgs_nil ?_
      refine ws_seq <| ws_asg <| we_cdict <| we_var rfl ⟨q.1, [u, v], rfl, hw, wg_tup rfl <| wgs_cons <| wg_name <| wgs_cons <| wg_name <| wgs_nil ?_⟩
      refine ws_seq <| ws_set <| we_op <| we_var rfl <| we_op <| we_var rfl <| we_op <| we_op <| we_var rfl <| we_var rfl <| ro_i m1 <| we_op <| we_var rfl <| we_var rfl <| ro_i m2 <| ro_i0 <| ro_i m3 <| ro_i0 ?_
      refine ws_seq <| ws_set <| we_op <| we_var rfl <| we_op <| we_var rfl <| we_var rfl <| ro_i m4 <| ro_i0 ?_
      exact ws_set <| we_op <| we_var rfl <| we_op <| we_var rfl <| we_var rfl <| ro_i m5 <| ro_i0 ⟨some (.str q.1), some (.int q.2), some (.int u), some (.int v), by rw [hst]; rfl, rfl⟩
    · obtain ⟨o4, o5, o6, o7, rfl, rfl⟩ := hI
      rw [List.length_map, List.take_length]
      exact ⟨_, _, _, _, rfl, rfl⟩
  rintro _ _ ⟨o4, o5, o6, o7, rfl, rfl⟩
  exact ws_ret <| we_tup <| wa_cons <| we_var rfl <| wa_cons <| we_var rfl <| wa_cons <| we_var rfl <| wa_nil ⟨z3, hk⟩
end
end AW

set_option linter.all false
set_option maxHeartbeats 2000000
namespace AW
open PySem PySem.Spec PyProof.Rows L2
variable [Tbs]
theorem way_ab (c : Str) : (wayV c).1.natAbs ≤ 1 ∧ (wayV c).2.natAbs ≤ 1 := by
  unfold wayV
  constructor
  · dsimp only; split
    · decide
    · split <;> decide
  · dsimp only; split
    · decide
    · split <;> decide
def kgT (s : Int × Int × Int) (p : Rn) : Int × Int × Int := kgS s (wayV p.1, p.2)
def kP (ps : List Rn) : Int × Int × Int := ps.foldl kgT (0, 0, 0)
theorem kP_wv (ps : List Rn) : kgF (wvF ps) = kP ps := by
  unfold kgF kP wvF
  rw [List.foldl_map]
  rfl
theorem kS0 (s : Int × Int × Int) (c : Str) : kgT s (c, 0) = s := by
  obtain ⟨x, y, z⟩ := s
  simp [kgT, kgS]
theorem kS_add (s : Int × Int × Int) (c : Str) (a b : Int) : kgT (kgT s (c, a)) (c, b) = kgT s (c, a + b) := by
  obtain ⟨x, y, z⟩ := s
  unfold kgT
  generalize wayV c = v
  obtain ⟨p, q⟩ := v
  show ((x + a * p + b * p, y + a * q + b * q, z + a * (x * q - y * p) + b * ((x + a * p) * q - (y + a * q) * p)) : Int × Int × Int) = (x + (a + b) * p, y + (a + b) * q, z + (a + b) * (x * q - y * p))
  have e : (x + a * p) * q - (y + a * q) * p = x * q - y * p := by
    rw [Int.add_mul, Int.add_mul, Int.mul_right_comm a p q]; omega
  rw [e, Int.add_mul, Int.add_mul, Int.add_mul]
  refine Prod.ext (by dsimp only; omega) (Prod.ext (by dsimp only; omega) (by dsimp only; omega))
theorem kP_snoc (ps : List Rn) (p : Rn) : kP (ps ++ [p]) = kgT (kP ps) p := by
  unfold kP
  rw [List.foldl_append]
  rfl
abbrev smK (ps : List Rn) : Int := (ps.map (·.2)).sum
def jK (s : List Rn × Str × Int) : Int × Int × Int := kgT (kP s.1) (s.2.1, s.2.2)
def jM (s : List Rn × Str × Int) : Int := smK s.1 + s.2.2
/-- the state of joined_runs keeps what the pairs sweep -/
structure JG (s : List Rn × Str × Int) : Prop where
  nn : 0 ≤ s.2.2
  wy : 0 < s.2.2 → s.2.1 ∈ ways
  gd : GoodK s.1
theorem jStep_k {s : List Rn × Str × Int} {p : Rn} (h : JG s) (hp : 0 ≤ p.2) (hw : p.1 ∈ ways) : jK (jStep s p) = kgT (jK s) p ∧ jM (jStep s p) = jM s + p.2 ∧ JG (jStep s p) := by
  obtain ⟨rs, l, c⟩ := s
  obtain ⟨q, t⟩ := p
  have h0 : 0 ≤ c := h.nn
  have hg : GoodK rs := h.gd
  have hl : 0 < c → l ∈ ways := h.wy
  have hp : 0 ≤ t := hp
  have hw : q ∈ ways := hw
  unfold jStep
  by_cases h1 : t = 0
  · subst h1
    rw [if_pos rfl]
    exact ⟨(kS0 _ _).symm, by simp, h⟩
  · rw [if_neg h1]
    by_cases h2 : q = l
    · subst h2
      rw [if_pos rfl]
      refine ⟨(kS_add _ _ _ _).symm, ?_, ⟨by show 0 ≤ c + t; omega, fun _ => hw, hg⟩⟩
      show (rs.map (·.2)).sum + (c + t) = (rs.map (·.2)).sum + c + t
      omega
    · rw [if_neg h2]
      by_cases h3 : c > 0
      · rw [if_pos h3]
        refine ⟨?_, ?_, ⟨hp, fun _ => hw, fun r hr => ?_⟩⟩
        · show kgT (kP (rs ++ [(l, c)])) (q, t) = _
          rw [kP_snoc]; rfl
        · show ((rs ++ [(l, c)]).map (·.2)).sum + t = _
          rw [List.map_append, List.sum_append]
          show (rs.map (·.2)).sum + (c + 0) + t = (rs.map (·.2)).sum + c + t
          omega
        · rcases List.mem_append.mp hr with hr | hr
          · exact hg r hr
          · rcases List.mem_singleton.mp hr with rfl
            exact ⟨hl h3, h0⟩
      · rw [if_neg h3]
        obtain rfl : c = 0 := by omega
        refine ⟨?_, ?_, ⟨hp, fun _ => hw, hg⟩⟩
        · show kgT (kP rs) (q, t) = kgT (kgT (kP rs) (l, 0)) (q, t)
          rw [kS0]
        · show (rs.map (·.2)).sum + t = (rs.map (·.2)).sum + 0 + t
          omega
theorem jFold_k : ∀ (ps : List Rn) (s : List Rn × Str × Int), JG s → GoodK ps → jK (ps.foldl jStep s) = ps.foldl kgT (jK s) ∧ jM (ps.foldl jStep s) = jM s + smK ps ∧ JG (ps.foldl jStep s)
  | [], s, h, _ => ⟨rfl, by show jM s = jM s + 0; omega, h⟩
  | p :: ps, s, h, hp => by
    obtain ⟨e1, e2, e3⟩ := jStep_k h (hp p (List.mem_cons_self ..)).2 (hp p (List.mem_cons_self ..)).1
    obtain ⟨f1, f2, f3⟩ := jFold_k ps (jStep s p) e3 fun q hq => hp q (List.mem_cons_of_mem _ hq)
    rw [List.foldl_cons, List.foldl_cons]
    refine ⟨by rw [f1, e1], ?_, f3⟩
    rw [f2, e2]
    show jM s + p.2 + smK ps = jM s + ((p :: ps).map (·.2)).sum
    rw [List.map_cons, List.sum_cons]
    show jM s + p.2 + smK ps = jM s + (p.2 + smK ps)
    omega
/-- joined runs sweep what the pairs sweep -/
theorem joinF_k {ps : List Rn} (h : GoodK ps) : kP (joinF ps) = kP ps ∧ smK (joinF ps) = smK ps ∧ GoodK (joinF ps) ∧ (joinF ps).length ≤ ps.length + 1 := by
  obtain ⟨f1, f2, f3⟩ := jFold_k ps ([], "", 0) ⟨Int.le_refl _, fun h => absurd h (by decide), fun p hp => absurd hp (List.not_mem_nil)⟩ h
  have fl := jFold_len ps ([], "", 0)
  have f1 : jK (ps.foldl jStep ([], "", 0)) = kP ps := by
    rw [f1]
    show ps.foldl kgT (kgT (0, 0, 0) ("", 0)) = _
    rw [kS0]; rfl
  have f2 : jM (ps.foldl jStep ([], "", 0)) = smK ps := by
    rw [f2]
    show (0 : Int) + 0 + _ = _
    omega
  unfold joinF
  generalize ps.foldl jStep ([], "", 0) = s at *
  obtain ⟨rs, l, c⟩ := s
  have h0 : 0 ≤ c := f3.nn
  have fl : rs.length ≤ 0 + ps.length := fl
  unfold jEnd
  by_cases h3 : c > 0
  · rw [if_pos h3]
    refine ⟨?_, ?_, ?_, ?_⟩
    · show kP (rs ++ [(l, c)]) = _
      rw [kP_snoc]; exact f1
    · show ((rs ++ [(l, c)]).map (·.2)).sum = _
      rw [List.map_append, List.sum_append, ← f2]
      show (rs.map (·.2)).sum + (c + 0) = (rs.map (·.2)).sum + c
      omega
    · intro r hr
      rcases List.mem_append.mp hr with hr | hr
      · exact f3.gd r hr
      · rcases List.mem_singleton.mp hr with rfl
        exact ⟨f3.wy h3, h0⟩
    · show (rs ++ [(l, c)]).length ≤ _
      rw [List.length_append]; show rs.length + 1 ≤ _; omega
  · rw [if_neg h3]
    obtain rfl : c = 0 := by omega
    refine ⟨?_, ?_, f3.gd, by show rs.length ≤ _; omega⟩
    · show kP rs = _
      rw [← f1]; exact (kS0 _ _).symm
    · show (rs.map (·.2)).sum = _
      rw [← f2]
      show _ = (rs.map (·.2)).sum + 0
      omega
theorem smK_nn : ∀ {ps : List Rn}, GoodK ps → 0 ≤ smK ps
  | [], _ => Int.le_refl _
  | p :: ps, h => by
    have h1 := (h p (List.mem_cons_self ..)).2
    have h2 := smK_nn (ps := ps) fun q hq => h q (List.mem_cons_of_mem _ hq)
    show 0 ≤ ((p :: ps).map (·.2)).sum
    rw [List.map_cons, List.sum_cons]
    show 0 ≤ p.2 + smK ps
    omega
theorem smK_mem : ∀ {ps : List Rn}, GoodK ps → ∀ p ∈ ps, p.2 ≤ smK ps
  | [], _, p, hp => absurd hp (List.not_mem_nil)
  | q :: ps, h, p, hp => by
    have h1 := (h q (List.mem_cons_self ..)).2
    have h2 := smK_nn (ps := ps) fun q hq => h q (List.mem_cons_of_mem _ hq)
    show p.2 ≤ ((q :: ps).map (·.2)).sum
    rw [List.map_cons, List.sum_cons]
    show p.2 ≤ q.2 + smK ps
    rcases List.mem_cons.mp hp with rfl | hp
    · omega
    · have := smK_mem (ps := ps) (fun q hq => h q (List.mem_cons_of_mem _ hq)) p hp
      omega
theorem kS_ab {s : Int × Int × Int} {p : Rn} (h : 0 ≤ p.2) : ((kgT s p).1.natAbs : Int) ≤ s.1.natAbs + p.2 ∧ ((kgT s p).2.1.natAbs : Int) ≤ s.2.1.natAbs + p.2 := by
  obtain ⟨x, y, z⟩ := s
  obtain ⟨c, t⟩ := p
  have h : 0 ≤ t := h
  have hw := way_ab c
  show ((x + t * (wayV c).1).natAbs : Int) ≤ x.natAbs + t ∧ ((y + t * (wayV c).2).natAbs : Int) ≤ y.natAbs + t
  generalize wayV c = v at hw
  obtain ⟨u, v⟩ := v
  dsimp only at hw ⊢
  have k : ∀ u : Int, u.natAbs ≤ 1 → u = 0 ∨ u = 1 ∨ u = -1 := fun u hu => by omega
  constructor
  · rcases k u hw.1 with rfl | rfl | rfl <;> omega
  · rcases k v hw.2 with rfl | rfl | rfl <;> omega
theorem kF_ab : ∀ {ps : List Rn} {s : Int × Int × Int}, GoodK ps → ((ps.foldl kgT s).1.natAbs : Int) ≤ s.1.natAbs + smK ps ∧ ((ps.foldl kgT s).2.1.natAbs : Int) ≤ s.2.1.natAbs + smK ps
  | [], s, _ => ⟨by show (s.1.natAbs : Int) ≤ s.1.natAbs + 0; omega, by show (s.2.1.natAbs : Int) ≤ s.2.1.natAbs + 0; omega⟩
  | p :: ps, s, h => by
    have h1 := kS_ab (s := s) (h p (List.mem_cons_self ..)).2
    have h2 := kF_ab (ps := ps) (s := kgT s p) fun q hq => h q (List.mem_cons_of_mem _ hq)
    rw [List.foldl_cons]
    have e : smK (p :: ps) = p.2 + smK ps := by show ((p :: ps).map (·.2)).sum = _; rw [List.map_cons, List.sum_cons]
    rw [e]
    omega
theorem smK_app (a b : List Rn) : smK (a ++ b) = smK a + smK b := by
  show ((a ++ b).map (·.2)).sum = _
  rw [List.map_append, List.sum_append]
theorem GoodK.take {ps : List Rn} (h : GoodK ps) (i : Nat) : GoodK (ps.take i) := fun p hp => h p (List.mem_of_mem_take hp)
theorem GoodK.drop {ps : List Rn} (h : GoodK ps) (i : Nat) : GoodK (ps.drop i) := fun p hp => h p (List.mem_of_mem_drop hp)
theorem smK_take {ps : List Rn} (h : GoodK ps) (i : Nat) : smK (ps.take i) ≤ smK ps := by
  have e := smK_app (ps.take i) (ps.drop i)
  rw [List.take_append_drop] at e
  have := smK_nn (h.drop i)
  omega
theorem bdK_of {ps : List Rn} (h : GoodK ps) (hs : Bd 3000 (smK ps)) : BdK ps := by
  have nn := smK_nn h
  unfold Bd at hs
  refine ⟨fun p hp => ?_, fun i => ?_⟩
  · have h1 := smK_mem h p hp
    have h2 := (h p hp).2
    unfold Bd
    generalize (2 : Nat) ^ 3000 = N at hs ⊢
    omega
  · rw [kP_wv]
    have h1 := kF_ab (s := (0, 0, 0)) (h.take i)
    have h2 := smK_take h i
    unfold Bd kP
    generalize (2 : Nat) ^ 3000 = N at hs ⊢
    obtain ⟨h3, h4⟩ := h1
    have h3 : (((ps.take i).foldl kgT (0, 0, 0)).1.natAbs : Int) ≤ 0 + smK (ps.take i) := h3
    have h4 : (((ps.take i).foldl kgT (0, 0, 0)).2.1.natAbs : Int) ≤ 0 + smK (ps.take i) := h4
    omega
/-- the fewest steps of a round that sweeps s -/
def Fk (s f : Int) : Prop := 0 ≤ f ∧ f % 2 = s % 2 ∧ f ≤ 4 * s + 6 ∧ ∀ n : Int, 0 ≤ n → n % 2 = s % 2 → (f ≤ n ↔ s ≤ kgM n)
theorem Fk.uniq {s f g : Int} (h : Fk s f) (k : Fk s g) : f = g := by
  have h1 := (h.2.2.2 g k.1 k.2.1).mpr ((k.2.2.2 g k.1 k.2.1).mp (Int.le_refl _))
  have h2 := (k.2.2.2 f h.1 h.2.1).mpr ((h.2.2.2 f h.1 h.2.1).mp (Int.le_refl _))
  omega
theorem Rt.le {r N : Int} (h : Rt r N) : r ≤ N := by
  have h1 := h.2.1
  have h0 := h.1
  by_cases g : r ≤ 1
  · rcases (show r = 0 ∨ r = 1 by omega) with rfl | rfl <;> omega
  · have := Int.mul_le_mul_of_nonneg_left (show 1 ≤ r by omega) h0
    omega
theorem fk_ok {s r : Int} (s0 : 0 ≤ s) (ho : s % 2 = 1 → Rt r (4 * s + 4)) (he : s % 2 = 0 → 0 < s → Rt r (s - 1)) : Fk s (fkI s r) := by
  refine ⟨?_, fk_par s0, ?_, fun n n0 hp => fk_le s0 ho he n0 hp⟩
  · unfold fkI
    split
    · have := (ho (by assumption)).1; split <;> omega
    · split
      · have := (he (by omega) (by assumption)).1; omega
      · omega
  · unfold fkI
    split
    · have := (ho (by assumption)).le; split <;> omega
    · split
      · have := (he (by omega) (by assumption)).le; omega
      · omega
abbrev mn (a b : Int) : Int := if b < a then b else a
abbrev evC (n s : Int) : Int := mn 1 ((4 * (n / 4) * (n / 2 - n / 4) - s) / 2)
abbrev evL (n s : Int) : Int := (4 * (n / 4) * (n / 2 - n / 4) - s) / 2
abbrev evS (n s : Int) : Int := mn (evL n s - evC n s) (n / 4 - evC n s)
def evR (e w : Str) (n s : Int) : List Rn := [("n" ++ e, n / 4 - evC n s - evS n s), ("n", evC n s), ("n" ++ e, evS n s), ("n" ++ w, evL n s - evC n s - evS n s), ("n", evC n s), ("n" ++ w, n / 2 - n / 4 - evC n s - (evL n s - evC n s - evS n s)), ("s" ++ w, n / 4), ("s" ++ e, n / 2 - n / 4)]
abbrev odL (n s : Int) : Int := (kgM n - s) / 2
abbrev odS (n s : Int) : Int := mn (odL n s) (n / 4)
def odR (e w : Str) (n s : Int) : List Rn := [("n" ++ e, n / 4 - odS n s), ("n", 1), ("n" ++ e, odS n s), ("n" ++ w, n / 2 - n / 4 - 1), ("s" ++ w, odL n s - odS n s), (w, 1), ("s" ++ w, n / 4 - (odL n s - odS n s)), ("s" ++ e, n / 2 - n / 4)]
theorem most_step {n : Int} (h : 2 ≤ n) : kgM n - kgM (n - 2) = if n % 2 = 1 then n - 1 else if n % 4 = 0 then n else n - 2 := by
  by_cases g : n % 2 = 1
  · obtain ⟨m, rfl⟩ : ∃ m, n = 2 * m + 1 := ⟨n / 2, by omega⟩
    rw [if_pos g]
    have e1 : (2 * m + 1) * (2 * m + 1) = 4 * (m * m) + 4 * m + 1 := by rw [Int.mul_add, Int.add_mul, mul4]; omega
    have e2 : (2 * m + 1 - 2) * (2 * m + 1 - 2) = 4 * (m * m) - 4 * m + 1 := by
      rw [show 2 * m + 1 - 2 = 2 * (m - 1) + 1 by omega, Int.mul_add, Int.add_mul, mul4, Int.mul_sub, Int.sub_mul]; omega
    unfold kgM
    rw [if_pos g, if_pos (by omega), e1, e2]
    omega
  · obtain ⟨m, rfl⟩ : ∃ m, n = 2 * m := ⟨n / 2, by omega⟩
    rw [if_neg g]
    have e2 : (2 * m - 2) * (2 * m - 2) = 4 * (m * m) - 8 * m + 4 := by
      rw [show 2 * m - 2 = 2 * (m - 1) by omega, mul4, Int.mul_sub, Int.sub_mul]; omega
    unfold kgM
    rw [if_neg g, if_neg (by omega), mul4, e2]
    split <;> omega
theorem most_zero : kgM 0 = 0 := by decide
theorem ev_ok {n s : Int} (s0 : 0 ≤ s) (h : Fk s n) (hp : s % 2 = 0) : 0 ≤ evC n s ∧ evC n s * evC n s = evC n s ∧ evC n s * evS n s = evS n s ∧ evC n s * (evL n s - evC n s - evS n s) = evL n s - evC n s - evS n s ∧ 0 ≤ evS n s ∧ 0 ≤ evL n s - evC n s - evS n s ∧ 0 ≤ n / 4 - evC n s - evS n s ∧ 0 ≤ n / 2 - n / 4 - evC n s - (evL n s - evC n s - evS n s) ∧ 0 ≤ n / 4 ∧ 0 ≤ n / 2 - n / 4 ∧ 4 * (n / 4 * (n / 2 - n / 4)) - 2 * (evC n s + evS n s + (evL n s - evC n s - evS n s)) = s := by
  obtain ⟨n0, np, _, hn⟩ := h
  have hm := (hn n n0 np).mp (Int.le_refl _)
  have me := most_even (n := n) (by omega)
  have e0 : 4 * (n / 4) * (n / 2 - n / 4) = kgM n := by rw [me, Int.mul_assoc]
  have hL : evL n s = (kgM n - s) / 2 := by unfold evL; rw [e0]
  have hC : evC n s = mn 1 (evL n s) := rfl
  have mp : kgM n % 2 = 0 := by rw [me]; omega
  have key : n = 0 ∧ s = 0 ∨ 2 ≤ n ∧ kgM (n - 2) < s := by
    by_cases z : n = 0
    · subst z; rw [most_zero] at hm; exact .inl ⟨rfl, by omega⟩
    · refine .inr ⟨by omega, ?_⟩
      have := hn (n - 2) (by omega) (by omega)
      omega
  rw [← me]
  generalize hLL : evL n s = L at *
  generalize hCC : evC n s = C at *
  have hS : evS n s = mn (L - C) (n / 4 - C) := by unfold evS; rw [hLL, hCC]
  generalize evS n s = S at *
  have c01 : C = 0 ∧ L = 0 ∧ S = 0 ∨ C = 1 ∧ 1 ≤ L ∧ L < n / 2 ∧ 1 ≤ n / 4 := by
    rcases key with ⟨rfl, rfl⟩ | ⟨n2, h2⟩
    · rw [most_zero] at hL
      obtain rfl : L = 0 := by omega
      obtain rfl : C = 0 := by rw [hC]; unfold mn; decide
      exact .inl ⟨rfl, rfl, by rw [hS]; decide⟩
    · have ms := most_step n2
      rw [if_neg (by omega)] at ms
      by_cases z : L = 0
      · subst z
        obtain rfl : C = 0 := by rw [hC]; unfold mn; decide
        exact .inl ⟨rfl, rfl, by rw [hS]; unfold mn; split <;> omega⟩
      · refine .inr ?_
        have : C = 1 := by rw [hC]; unfold mn; split <;> omega
        split at ms <;> omega
  rcases c01 with ⟨rfl, rfl, rfl⟩ | ⟨rfl, h1, h2, h3⟩
  · refine ⟨by omega, by omega, by omega, by omega, by omega, by omega, by omega, by omega, by omega, by omega, by omega⟩
  · have : S = L - 1 ∧ L - 1 ≤ n / 4 - 1 ∨ S = n / 4 - 1 ∧ n / 4 - 1 < L - 1 := by rw [hS]; unfold mn; split <;> omega
    refine ⟨by omega, by omega, by omega, by omega, by omega, by omega, by omega, by omega, by omega, by omega, by omega⟩
theorem od_ok {n s : Int} (s0 : 0 ≤ s) (h : Fk s n) (hp : s % 2 = 1) : 0 ≤ odS n s ∧ 0 ≤ n / 4 - odS n s ∧ 0 ≤ n / 2 - n / 4 - 1 ∧ 0 ≤ odL n s - odS n s ∧ 0 ≤ n / 4 - (odL n s - odS n s) ∧ 0 ≤ n / 2 - n / 4 ∧ 4 * (n / 4 * (n / 2 - n / 4)) + 2 * (n / 2 - n / 4) - 1 - 2 * (odS n s + (odL n s - odS n s)) = s := by
  obtain ⟨n0, np, _, hn⟩ := h
  have hm := (hn n n0 np).mp (Int.le_refl _)
  have me := most_odd (n := n) (by omega)
  have n3 : 3 ≤ n := by
    have : n ≠ 1 := by rintro rfl; have : kgM 1 = -1 := by decide
                       omega
    omega
  have h2 : kgM (n - 2) < s := by
    have := hn (n - 2) (by omega) (by omega)
    omega
  have ms := most_step (n := n) (by omega)
  rw [if_pos (by omega)] at ms
  have mp : kgM n % 2 = 1 := by rw [me]; omega
  rw [← me]
  have hL : odL n s = (kgM n - s) / 2 := rfl
  have hS : odS n s = mn (odL n s) (n / 4) := rfl
  generalize odL n s = L at *
  generalize odS n s = S at *
  have : S = L ∧ L ≤ n / 4 ∨ S = n / 4 ∧ n / 4 < L := by rw [hS]; unfold mn; split <;> omega
  refine ⟨by omega, by omega, by omega, by omega, by omega, by omega, by omega⟩
theorem wv_ev (n s : Int) : wvF (evR "e" "w" n s) = kgE (n / 4) (n / 2 - n / 4) (evC n s) (evS n s) (evL n s - evC n s - evS n s) ∧ wvF (evR "w" "e" n s) = (kgE (n / 4) (n / 2 - n / 4) (evC n s) (evS n s) (evL n s - evC n s - evS n s)).map kgX := by
  have a1 : wayV ("n" ++ "e") = (1, 1) := by decide +kernel
  have a2 : wayV "n" = (0, 1) := by decide +kernel
  have a3 : wayV ("n" ++ "w") = (-1, 1) := by decide +kernel
  have a4 : wayV ("s" ++ "w") = (-1, -1) := by decide +kernel
  have a5 : wayV ("s" ++ "e") = (1, -1) := by decide +kernel
  constructor
  · simp only [wvF, evR, List.map_cons, List.map_nil, a1, a2, a3, a4, a5]; rfl
  · simp only [wvF, evR, List.map_cons, List.map_nil, a1, a2, a3, a4, a5]; rfl
theorem wv_od (n s : Int) : wvF (odR "e" "w" n s) = kgO (n / 4) (n / 2 - n / 4) (odS n s) (odL n s - odS n s) ∧ wvF (odR "w" "e" n s) = (kgO (n / 4) (n / 2 - n / 4) (odS n s) (odL n s - odS n s)).map kgX := by
  have a1 : wayV ("n" ++ "e") = (1, 1) := by decide +kernel
  have a2 : wayV "n" = (0, 1) := by decide +kernel
  have a3 : wayV ("n" ++ "w") = (-1, 1) := by decide +kernel
  have a4 : wayV ("s" ++ "w") = (-1, -1) := by decide +kernel
  have a5 : wayV ("s" ++ "e") = (1, -1) := by decide +kernel
  have a6 : wayV "w" = (-1, 0) := by decide +kernel
  have a7 : wayV "e" = (1, 0) := by decide +kernel
  constructor
  · simp only [wvF, odR, List.map_cons, List.map_nil, a1, a2, a3, a4, a5, a6, a7]; rfl
  · simp only [wvF, odR, List.map_cons, List.map_nil, a1, a2, a3, a4, a5, a6, a7]; rfl
/-- a round of n steps that sweeps s -/
def Rnd (n s : Int) (ps : List Rn) : Prop := GoodK ps ∧ ps.length ≤ 12 ∧ kP ps = (0, 0, s) ∧ smK ps = n
abbrev eW (s : Int) : Str × Str := if s ≥ 0 then ("e", "w") else ("w", "e")
def rndR (n s f : Int) : List Rn := ((eW s).1, (n - f) / 2) :: ((eW s).2, (n - f) / 2) :: (if f % 2 = 1 then odR (eW s).1 (eW s).2 f (if s < 0 then -s else s) else evR (eW s).1 (eW s).2 f (if s < 0 then -s else s))
theorem m_way (c : Str) (h : c = "e" ∨ c = "ne" ∨ c = "n" ∨ c = "nw" ∨ c = "w" ∨ c = "sw" ∨ c = "s" ∨ c = "se") : c ∈ ways := by simpa [ways] using h
theorem ew_ways {e w : Str} (h : e = "e" ∧ w = "w" ∨ e = "w" ∧ w = "e") : e ∈ ways ∧ w ∈ ways ∧ (("n" : Str) ++ e) ∈ ways ∧ (("n" : Str) ++ w) ∈ ways ∧ (("s" : Str) ++ e) ∈ ways ∧ (("s" : Str) ++ w) ∈ ways ∧ ("n" : Str) ∈ ways := by
  rcases h with ⟨rfl, rfl⟩ | ⟨rfl, rfl⟩ <;> decide +kernel
theorem ev_good {e w : Str} (h : e = "e" ∧ w = "w" ∨ e = "w" ∧ w = "e") {n s : Int} (s0 : 0 ≤ s) (hf : Fk s n) (hp : s % 2 = 0) : GoodK (evR e w n s) ∧ smK (evR e w n s) = n := by
  obtain ⟨w1, w2, w3, w4, w5, w6, w7⟩ := ew_ways h
  obtain ⟨h1, h2, h3, h4, h5, h6, h7, h8, h9, h10, h11⟩ := ev_ok s0 hf hp
  constructor
  · intro p hp
    simp only [evR, List.mem_cons, List.not_mem_nil, or_false] at hp
    rcases hp with rfl | rfl | rfl | rfl | rfl | rfl | rfl | rfl
    · exact ⟨w3, h7⟩
    · exact ⟨w7, h1⟩
    · exact ⟨w3, h5⟩
    · exact ⟨w4, h6⟩
    · exact ⟨w7, h1⟩
    · exact ⟨w4, h8⟩
    · exact ⟨w6, h9⟩
    · exact ⟨w5, h10⟩
  · have np := hf.2.1
    simp only [smK, evR, List.map_cons, List.map_nil, List.sum_cons, List.sum_nil]
    generalize evS n s = S at *
    generalize evC n s = C at *
    generalize evL n s = L at *
    omega
theorem od_good {e w : Str} (h : e = "e" ∧ w = "w" ∨ e = "w" ∧ w = "e") {n s : Int} (s0 : 0 ≤ s) (hf : Fk s n) (hp : s % 2 = 1) : GoodK (odR e w n s) ∧ smK (odR e w n s) = n := by
  obtain ⟨w1, w2, w3, w4, w5, w6, w7⟩ := ew_ways h
  obtain ⟨h1, h2, h3, h4, h5, h6, h7⟩ := od_ok s0 hf hp
  constructor
  · intro p hp
    simp only [odR, List.mem_cons, List.not_mem_nil, or_false] at hp
    rcases hp with rfl | rfl | rfl | rfl | rfl | rfl | rfl | rfl
    · exact ⟨w3, h2⟩
    · exact ⟨w7, by show (0 : Int) ≤ 1; omega⟩
    · exact ⟨w3, h1⟩
    · exact ⟨w4, h3⟩
    · exact ⟨w6, h4⟩
    · exact ⟨w2, by show (0 : Int) ≤ 1; omega⟩
    · exact ⟨w6, h5⟩
    · exact ⟨w5, h6⟩
  · have np := hf.2.1
    simp only [smK, odR, List.map_cons, List.map_nil, List.sum_cons, List.sum_nil]
    generalize odS n s = S at *
    generalize odL n s = L at *
    omega
theorem smK_cons (p : Rn) (ps : List Rn) : smK (p :: ps) = p.2 + smK ps := by
  show ((p :: ps).map (·.2)).sum = _
  rw [List.map_cons, List.sum_cons]
theorem rnd_ng {n s f : Int} (h : Fk (if s < 0 then -s else s) f) (hn : f ≤ n) (hp : (n - f) % 2 = 0) : GoodK (rndR n s f) ∧ kP (rndR n s f) = (0, 0, s) ∧ smK (rndR n s f) = n ∧ (rndR n s f).length = 10 := by
  have v1 : wayV "e" = (1, 0) := by decide +kernel
  have v2 : wayV "w" = (-1, 0) := by decide +kernel
  have ne : ("e" : Str) ∈ ways := by decide +kernel
  have nw : ("w" : Str) ∈ ways := by decide +kernel
  have good : ∀ (e w : Str) (R : List Rn), (e = "e" ∧ w = "w" ∨ e = "w" ∧ w = "e") → GoodK R → smK R = f → kgF (wvF R) = (0, 0, s) → R.length = 8 → GoodK ((e, (n - f) / 2) :: (w, (n - f) / 2) :: R) ∧ kP ((e, (n - f) / 2) :: (w, (n - f) / 2) :: R) = (0, 0, s) ∧ smK ((e, (n - f) / 2) :: (w, (n - f) / 2) :: R) = n ∧ ((e, (n - f) / 2) :: (w, (n - f) / 2) :: R).length = 10 := by
    intro e w R hew hg hm hk hl
    have t0 : 0 ≤ (n - f) / 2 := by omega
    refine ⟨fun p hp => ?_, ?_, ?_, by rw [List.length_cons, List.length_cons, hl]⟩
    · rcases List.mem_cons.mp hp with rfl | hp
      · exact ⟨(ew_ways hew).1, t0⟩
      · rcases List.mem_cons.mp hp with rfl | hp
        · exact ⟨(ew_ways hew).2.1, t0⟩
        · exact hg p hp
    · rw [← kP_wv, ← hk]
      rcases hew with ⟨rfl, rfl⟩ | ⟨rfl, rfl⟩
      · have := kg_spare ((n - f) / 2) (wvF R)
        rw [← this]
        simp only [wvF, List.map_cons, v1, v2]
      · have := kg_back [] (wvF R) (-1) 0 ((n - f) / 2)
        rw [List.nil_append, List.nil_append] at this
        rw [← this]
        simp only [wvF, List.map_cons, v1, v2]
        rfl
    · rw [smK_cons, smK_cons, hm]
      show (n - f) / 2 + ((n - f) / 2 + f) = n
      omega
  · have a0 : 0 ≤ (if s < 0 then -s else s) := by split <;> omega
    have hf := h.2.1
    unfold rndR
    by_cases sg : s ≥ 0
    · have as : (if s < 0 then -s else s) = s := if_neg (by omega)
      have ew : eW s = (("e" : Str), ("w" : Str)) := if_pos sg
      rw [as] at h a0 hf ⊢
      rw [ew]
      by_cases par : f % 2 = 1
      · rw [if_pos par]
        obtain ⟨g1, g2⟩ := od_good (.inl ⟨rfl, rfl⟩) a0 h (by omega)
        have o := od_ok a0 h (by omega)
        refine good _ _ _ (.inl ⟨rfl, rfl⟩) g1 g2 ?_ rfl
        rw [(wv_od f s).1, kgO_ok, o.2.2.2.2.2.2]
      · rw [if_neg par]
        obtain ⟨g1, g2⟩ := ev_good (.inl ⟨rfl, rfl⟩) a0 h (by omega)
        obtain ⟨h1, h2, h3, h4, h5, h6, h7, h8, h9, h10, h11⟩ := ev_ok a0 h (by omega)
        refine good _ _ _ (.inl ⟨rfl, rfl⟩) g1 g2 ?_ rfl
        rw [(wv_ev f s).1, kgE_ok _ _ _ _ _ h2 h3 h4, h11]
    · have as : (if s < 0 then -s else s) = -s := if_pos (by omega)
      have ew : eW s = (("w" : Str), ("e" : Str)) := if_neg sg
      rw [as] at h a0 hf ⊢
      rw [ew]
      have fin : ((-(0 : Int), (0 : Int), -(-s)) : Int × Int × Int) = (0, 0, s) := by rw [Int.neg_neg]; rfl
      by_cases par : f % 2 = 1
      · rw [if_pos par]
        obtain ⟨g1, g2⟩ := od_good (.inr ⟨rfl, rfl⟩) a0 h (by omega)
        have o := od_ok a0 h (by omega)
        refine good _ _ _ (.inr ⟨rfl, rfl⟩) g1 g2 ?_ rfl
        rw [(wv_od f (-s)).2, kgX_ok, kgO_ok, o.2.2.2.2.2.2]
        exact fin
      · rw [if_neg par]
        obtain ⟨g1, g2⟩ := ev_good (.inr ⟨rfl, rfl⟩) a0 h (by omega)
        obtain ⟨h1, h2, h3, h4, h5, h6, h7, h8, h9, h10, h11⟩ := ev_ok a0 h (by omega)
        refine good _ _ _ (.inr ⟨rfl, rfl⟩) g1 g2 ?_ rfl
        rw [(wv_ev f (-s)).2, kgX_ok, kgE_ok _ _ _ _ _ h2 h3 h4, h11]
        exact fin
theorem rnd_good {n s f : Int} (h : Fk (if s < 0 then -s else s) f) (hn : f ≤ n) (hp : (n - f) % 2 = 0) : GoodK (rndR n s f) := (rnd_ng h hn hp).1
theorem rnd_ok {n s f : Int} (h : Fk (if s < 0 then -s else s) f) (hn : f ≤ n) (hp : (n - f) % 2 = 0) : Rnd n s (joinF (rndR n s f)) := by
  obtain ⟨h1, h2, h3, h4⟩ := rnd_ng h hn hp
  obtain ⟨j1, j2, j3, j4⟩ := joinF_k h1
  exact ⟨j3, by omega, by rw [j1, h2], by rw [j2, h3]⟩
def obR (W H a b c d : Int) : List Rn := [("e", W - d - a), ("ne", a), ("n", H - a - b), ("nw", b), ("w", W - b - c), ("sw", c), ("s", H - c - d), ("se", d)]
def obT (W H a b c d t : Int) (k : Nat) (u v : Str) : List Rn := (obR W H a b c d).take k ++ (u, t) :: (v, t) :: (obR W H a b c d).drop k
/-- the oblong with cut corners and steps out and back -/
def Obl (ps : List Rn) : Prop := GoodK ps ∧ ps.length = 10 ∧ ∃ A : Int, kP ps = (0, 0, A) ∧ 0 ≤ A ∧ A ≤ kgM (smK ps) ∧ 4 ≤ smK ps
theorem ob_ok {W H a b c d t : Int} {k : Nat} {u v : Str} (hW : 2 ≤ W) (hH : 2 ≤ H) (ha : 0 ≤ a ∧ 2 * a ≤ W ∧ 2 * a ≤ H) (hb : 0 ≤ b ∧ 2 * b ≤ W ∧ 2 * b ≤ H) (hc : 0 ≤ c ∧ 2 * c ≤ W ∧ 2 * c ≤ H) (hd : 0 ≤ d ∧ 2 * d ≤ W ∧ 2 * d ≤ H) (ht : 0 ≤ t) (huv : u = "e" ∧ v = "w" ∨ u = "ne" ∧ v = "sw" ∨ u = "s" ∧ v = "n") : Obl (obT W H a b c d t k u v) ∧ smK (obT W H a b c d t k u v) = 2 * W + 2 * H - (a + b + c + d) + 2 * t := by
  have v1 : wayV "e" = (1, 0) := by decide +kernel
  have v2 : wayV "ne" = (1, 1) := by decide +kernel
  have v3 : wayV "n" = (0, 1) := by decide +kernel
  have v4 : wayV "nw" = (-1, 1) := by decide +kernel
  have v5 : wayV "w" = (-1, 0) := by decide +kernel
  have v6 : wayV "sw" = (-1, -1) := by decide +kernel
  have v7 : wayV "s" = (0, -1) := by decide +kernel
  have v8 : wayV "se" = (1, -1) := by decide +kernel
  have ew : wvF (obR W H a b c d) = kgB W H a b c d := by
    simp only [wvF, obR, List.map_cons, List.map_nil, v1, v2, v3, v4, v5, v6, v7, v8]
    rfl
  have uv : ∃ p q : Int, wayV u = (p, q) ∧ wayV v = (-p, -q) ∧ u ∈ ways ∧ v ∈ ways := by
    rcases huv with ⟨rfl, rfl⟩ | ⟨rfl, rfl⟩ | ⟨rfl, rfl⟩
    · exact ⟨1, 0, v1, v5, by decide +kernel, by decide +kernel⟩
    · exact ⟨1, 1, v2, v6, by decide +kernel, by decide +kernel⟩
    · exact ⟨0, -1, v7, v3, by decide +kernel, by decide +kernel⟩
  obtain ⟨p, q, e1, e2, m1, m2⟩ := uv
  have g0 : GoodK (obR W H a b c d) := by
    intro r hr
    simp only [obR, List.mem_cons, List.not_mem_nil, or_false] at hr
    rcases hr with rfl | rfl | rfl | rfl | rfl | rfl | rfl | rfl
    · exact ⟨by dsimp only; decide +kernel, by dsimp only; omega⟩
    · exact ⟨by dsimp only; decide +kernel, by dsimp only; omega⟩
    · exact ⟨by dsimp only; decide +kernel, by dsimp only; omega⟩
    · exact ⟨by dsimp only; decide +kernel, by dsimp only; omega⟩
    · exact ⟨by dsimp only; decide +kernel, by dsimp only; omega⟩
    · exact ⟨by dsimp only; decide +kernel, by dsimp only; omega⟩
    · exact ⟨by dsimp only; decide +kernel, by dsimp only; omega⟩
    · exact ⟨by dsimp only; decide +kernel, by dsimp only; omega⟩
  have s0 : smK (obR W H a b c d) = 2 * W + 2 * H - (a + b + c + d) := by
    simp only [smK, obR, List.map_cons, List.map_nil, List.sum_cons, List.sum_nil]
    omega
  have sm : smK (obT W H a b c d t k u v) = 2 * W + 2 * H - (a + b + c + d) + 2 * t := by
    unfold obT
    rw [smK_app, smK_cons, smK_cons]
    have := smK_app ((obR W H a b c d).take k) ((obR W H a b c d).drop k)
    rw [List.take_append_drop, s0] at this
    show _ + (t + (t + _)) = _
    omega
  have km := kgB_most (W := W) (H := H) (by omega) (by omega) ha hb hc hd ht
  refine ⟨⟨fun r hr => ?_, ?_, _, ?_, km.1, by rw [sm]; exact km.2, by rw [sm]; omega⟩, sm⟩
  · unfold obT at hr
    rcases List.mem_append.mp hr with hr | hr
    · exact g0 r (List.mem_of_mem_take hr)
    · rcases List.mem_cons.mp hr with rfl | hr
      · exact ⟨m1, ht⟩
      · rcases List.mem_cons.mp hr with rfl | hr
        · exact ⟨m2, ht⟩
        · exact g0 r (List.mem_of_mem_drop hr)
  · unfold obT
    rw [List.length_append, List.length_cons, List.length_cons, List.length_take, List.length_drop]
    show min k 8 + (8 - k + 1 + 1) = 10
    omega
  · rw [← kP_wv, ← kgB_ok, ← ew]
    unfold obT wvF
    rw [List.map_append, List.map_cons, List.map_cons]
    dsimp only
    rw [e1, e2]
    have := kg_back (wvF ((obR W H a b c d).take k)) (wvF ((obR W H a b c d).drop k)) p q t
    rw [this]
    unfold wvF
    rw [← List.map_append, List.take_append_drop]
theorem kgM_nn {n : Int} (h : 2 ≤ n) : 0 ≤ kgM n ∧ kgM n % 2 = n % 2 := by
  unfold kgM
  by_cases g : n % 2 = 1
  · rw [if_pos g]
    obtain ⟨m, rfl⟩ : ∃ m, n = 2 * m + 1 := ⟨n / 2, by omega⟩
    have e : (2 * m + 1) * (2 * m + 1) = 4 * (m * m) + 4 * m + 1 := by rw [Int.mul_add, Int.add_mul, mul4]; omega
    have o := odd_pr m
    have := sq_nn m
    rw [e]
    generalize m * m = q at *
    omega
  · rw [if_neg g]
    obtain ⟨m, rfl⟩ : ∃ m, n = 2 * m := ⟨n / 2, by omega⟩
    have o := odd_pr m
    have := sq_le (a := 1) (b := m) (by omega) (by omega)
    rw [mul4, show 2 * m / 2 = m by omega]
    generalize m * m = q at *
    omega
theorem kgM_le {n : Int} (h : 4 ≤ n) : 0 ≤ kgM (n - 2) ∧ kgM (n - 2) ≤ kgM n ∧ kgM (n - 2) % 2 = n % 2 := by
  have h1 := kgM_nn (n := n - 2) (by omega)
  have h2 := most_step (n := n) (by omega)
  refine ⟨h1.1, ?_, by omega⟩
  split at h2
  · omega
  · split at h2 <;> omega
end AW

set_option linter.all false
set_option maxRecDepth 100000
set_option maxHeartbeats 8000000
namespace AW
open PySem PySem.Spec PyProof.Rows L2
variable [Tbs]
section
variable {P : Program} {w : World} {K : PySem.W.Frag} {mg : Str → Option Value} {base : Heap} [CDict K w "STRIDES" L_STRIDES]
theorem or1 {z : Int} (h : 0 ≤ z) : Builtin.bitOr z 1 = if z % 2 = 1 then z else z + 1 := by
  rw [Bits.bitOr_pp h (by decide)]
  have e := nat_or1 z.toNat
  show ((z.toNat ||| 1 : Nat) : Int) = _
  rw [e]
  split <;> split <;> omega
theorem we_root {E : XK} {e : EW} {ρ : List (Option D)} {B : Int} {k : KD} {t : TA} (h : Wa K E e t ρ B fun ds B1 => ∃ a : Int, ds = [.int a] ∧ 0 ≤ a ∧ Bd 12000 a ∧ ∀ r : Int, Rt r a → k (.int r) B1) : We K E e (tCB rRoot t) ρ B k :=
  we_cb fun σ H G Q s en x q => h σ H G Q s en x fun ds vs B1 G1 H1 ⟨a, ed, a0, ba, hk⟩ e1 r1 => q ds vs B1 G1 H1 (fun ws H2 G2 Q2 s2 r2 q2 => by
    subst ed
    obtain ⟨v, _, rfl, rv, rfl⟩ := r2
    rw [show v = _ from rv]
    exact ⟨a, rfl, a0, ba, fun r r0 h1 h2 => q2 _ _ _ _ _ (hk r ⟨r0, h1, h2⟩) (Ext.refl s2) rfl⟩) e1 r1
theorem bdiv {n m : Int} {k : Nat} (h : Bd k n) (hm : 0 ≤ m) : Bd k (n / m) := by
  unfold Bd at *
  refine Nat.lt_of_le_of_lt ?_ h
  exact Int.natAbs_ediv_le_natAbs n m
def pr_most_swept (T : Tx K mg) : Pr := fun ds B k e => ∃ n : Int, ds = [.int n] ∧ Bd 3000 n ∧ k (.int (kgM n)) B
theorem okD_most_swept (T : Tx K mg) : FnOk P w K mg base (L2.CX P w) 1 T.a_most_swept T.d_most_swept P_most_swept (spD K (pr_most_swept T)) := by
  refine T.F_most_swept.okX sc_most_swept (spD_len fun ds B k e h => by obtain ⟨n, rfl, bn, hk⟩ := h; rfl) (fun cdv A outer s H vs Q E hr h => ?_)
  obtain ⟨G, ds, B, k, e, hs, hR, ⟨n, rfl, bn, hk⟩, hK, hX⟩ := h
  refine ⟨_, (pss_cons (ps_if (pt_cmpR op_eq (pe_op op_andM (pv 0) pe_int) pe_int (nomark _))
 (pss_one (ps_ret (pe_op op_fdivW (pe_op op_sub (pe_op op_mulW (pv 0) (pv 0)) pe_int) pe_int)))
 pss_nil)
 (pss_one (ps_ret (pe_op op_sub (pe_op op_fdivW (pe_op op_mulW (pv 0) (pv 0)) pe_int) (pe_op op_andM (pe_op op_fdivW (pv 0) pe_int) pe_int))))), run_body (ρ := [some (.int n)]) hs hR hK hX rfl ?_⟩
  have c1 : CMulW n n := cmw (bn.mono (by decide)) (bn.mono (by decide))
  unfold kgM at hk
  refine ws_seq <| ws_if <| wt_test <| we_op <| we_op <| we_var rfl <| we_int <| ro_and1 <| we_int <| ro_eqI ⟨_, rfl, fun h => ?_, fun h => ?_⟩
  · rw [if_pos (of_decide_eq_true h)] at hk
    exact ws_ret <| we_op <| we_op <| we_op <| we_var rfl <| we_var rfl <| ro_i c1 <| we_int <| ro_i0 <| we_int <| ro_i ⟨by decide, by decide⟩ hk
  · rw [if_neg (of_decide_eq_false h)] at hk
    exact ws_next <| ws_ret <| we_op <| we_op <| we_op <| we_var rfl <| we_var rfl <| ro_i c1 <| we_int <| ro_i ⟨by decide, by decide⟩ <| we_op <| we_op <| we_var rfl <| we_int <| ro_i ⟨by decide, by decide⟩ <| we_int <| ro_and1 <| ro_i0 hk
def pr_fewest_king_steps (T : Tx K mg) : Pr := fun ds B k e => ∃ s : Int, ds = [.int s] ∧ 0 ≤ s ∧ Bd 3000 s ∧ ∀ f : Int, Fk s f → k (.int f) B
theorem okD_fewest_king_steps (T : Tx K mg) : FnOk P w K mg base (L2.CX P w) 1 T.a_fewest_king_steps T.d_fewest_king_steps P_fewest_king_steps (spD K (pr_fewest_king_steps T)) := by
  refine T.F_fewest_king_steps.okX sc_fewest_king_steps (spD_len fun ds B k e h => by obtain ⟨s, rfl, s0, bs, hk⟩ := h; rfl) (fun cdv A outer s H vs Q E hr h => ?_)
  obtain ⟨G, ds, B, k, e, hs, hR, ⟨s, rfl, s0, bs, hk⟩, hK, hX⟩ := h
  refine ⟨_, (pss_cons (ps_if (pt_cmpR op_eq (pe_op op_andM (pv 0) pe_int) pe_int (nomark _))
 (pss_one (ps_ret (pe_op op_or (pe_op op_add (pe_callBfun cr_root (by rfl) T.mi_isqrt (pa_cons (pe_op op_add (pe_op op_mul pe_int (pv 0)) pe_int) pa_nil)) pe_int) pe_int)))
 pss_nil)
 (pss_one (ps_ret (pe_ifExp (pt_cmpR op_gt (pv 0) pe_int (nomark _)) (pe_op op_mul pe_int (pe_op op_add (pe_callBfun cr_root (by rfl) T.mi_isqrt (pa_cons (pe_op op_sub (pv 0) pe_int) pa_nil)) pe_int)) pe_int)))), run_body (ρ := [some (.int s)]) hs hR hK hX rfl ?_⟩
  have b4 : Bd 12000 (4 * s + 4) := by
    refine Bd.mono (k := 3004) ?_ (by decide)
    unfold Bd at bs ⊢
    rw [show (2 : Nat) ^ 3004 = 16 * 2 ^ 3000 by decide +kernel]
    generalize (2 : Nat) ^ 3000 = N at bs ⊢
    omega
  refine ws_seq <| ws_if <| wt_test <| we_op <| we_op <| we_var rfl <| we_int <| ro_and1 <| we_int <| ro_eqI ⟨_, rfl, fun h => ?_, fun h => ?_⟩
  · have h := of_decide_eq_true h
    refine ws_ret <| we_op <| we_op <| we_root <| wa_cons <| we_op <| we_op <| we_int <| we_var rfl <| ro_i (.inl ⟨by decide +kernel, by decide +kernel⟩) <| we_int <| ro_i0 <| wa_nil ⟨_, rfl, by omega, b4, fun r hr => we_int <| ro_i0 <| we_int <| ro_i0 ?_⟩
    have hf := fk_ok (s := s) (r := r) s0 (fun _ => hr) (fun z => by omega)
    have r0 := hr.1
    rw [or1 (by omega)]
    have : fkI s r = if (r + 1) % 2 = 1 then r + 1 else r + 1 + 1 := by
      unfold fkI
      rw [if_pos h]
      split <;> split <;> omega
    rw [← this]
    exact hk _ hf
  · have h := of_decide_eq_false h
    refine ws_next <| ws_ret <| we_ifE <| wt_test <| we_op <| we_var rfl <| we_int <| ro_b0 ⟨_, rfl, fun c => ?_, fun c => ?_⟩
    · have c := of_decide_eq_true c
      refine we_op <| we_int <| we_op <| we_root <| wa_cons <| we_op <| we_var rfl <| we_int <| ro_i0 <| wa_nil ⟨_, rfl, by omega, ?_, fun r hr => we_int <| ro_i0 <| ro_i (.inl ⟨by decide +kernel, by decide +kernel⟩) ?_⟩
      · refine Bd.mono (k := 3000) ?_ (by decide)
        unfold Bd at bs ⊢
        omega
      · have hf := fk_ok (s := s) (r := r) s0 (fun z => by omega) (fun _ _ => hr)
        have : fkI s r = 2 * (r + 1) := by unfold fkI; rw [if_neg h, if_pos c]
        rw [this] at hf
        exact hk _ hf
    · have c := of_decide_eq_false c
      have hf := fk_ok (s := s) (r := 0) s0 (fun z => by omega) (fun _ z => by omega)
      have : fkI s 0 = 0 := by unfold fkI; rw [if_neg h, if_neg c]
      rw [this] at hf
      exact we_int (hk _ hf)
end
end AW

set_option linter.all false
set_option maxRecDepth 100000
set_option maxHeartbeats 8000000
namespace AW
open PySem PySem.Spec PyProof.Rows L2
variable [Tbs]
section
variable {P : Program} {w : World} {K : PySem.W.Frag} {mg : Str → Option Value} {base : Heap} [CDict K w "STRIDES" L_STRIDES]
theorem ew_len {e w : Str} (h : e = "e" ∧ w = "w" ∨ e = "w" ∧ w = "e") : (∀ c : Str, c.length = 1 → c.length + e.length ≤ sizeLine) ∧ ∀ c : Str, c.length = 1 → c.length + w.length ≤ sizeLine := by
  have l1 : ("e" : Str).length = 1 := by decide +kernel
  have l2 : ("w" : Str).length = 1 := by decide +kernel
  rcases h with ⟨rfl, rfl⟩ | ⟨rfl, rfl⟩ <;> (constructor <;> (intro c hc; rw [hc]; first | rw [l1] | rw [l2]); all_goals decide)
def pr_even_round (T : Tx K mg) : Pr := fun ds B k e => ∃ (n s : Int) (a b : Str), ds = [.int n, .int s, .str a, .str b] ∧ (a = "e" ∧ b = "w" ∨ a = "w" ∧ b = "e") ∧ Bd 3000 n ∧ k (.lst ((evR a b n s).map prD)) B
theorem okD_even_round (T : Tx K mg) : FnOk P w K mg base (L2.CX P w) 1 T.a_even_round T.d_even_round P_even_round (spD K (pr_even_round T)) := by
  refine T.F_even_round.okX sc_even_round (spD_len fun ds B k e h => by obtain ⟨n, s, a, b, rfl, hab, bn, hk⟩ := h; rfl) (fun cdv A outer s H vs Q E hr h => ?_)
  obtain ⟨G, ds, B, k, e, hs, hR, ⟨n, s, a, b, rfl, hab, bn, hk⟩, hK, hX⟩ := h
  refine ⟨_, (pss_cons (ps_set (i := 4) sc_even_round.nd rfl (.inl rfl) (pe_op op_fdivW (pv 0) pe_int))
 (pss_cons (ps_set (i := 5) sc_even_round.nd rfl (.inl rfl) (pe_op op_sub (pe_op op_fdivW (pv 0) pe_int) (pv 4)))
 (pss_cons (ps_set (i := 6) sc_even_round.nd rfl (.inl rfl) (pe_op op_fdivW (pe_op op_sub (pe_op op_mulW (pe_op op_mul pe_int (pv 4)) (pv 5)) (pv 1)) pe_int))
 (pss_cons (ps_set (i := 7) sc_even_round.nd rfl (.inl rfl) (pe_callB (call_min2 rfl) (by rfl) T.n_min (by decide +kernel) (pa_cons pe_int (pa_cons (pv 6) pa_nil))))
 (pss_cons (ps_set (i := 8) sc_even_round.nd rfl (.inl rfl) (pe_callB (call_min2 rfl) (by rfl) T.n_min (by decide +kernel) (pa_cons (pe_op op_sub (pv 6) (pv 7)) (pa_cons (pe_op op_sub (pv 4) (pv 7)) pa_nil))))
 (pss_cons (ps_set (i := 9) sc_even_round.nd rfl (.inl rfl) (pe_op op_sub (pe_op op_sub (pv 6) (pv 7)) (pv 8)))
 (pss_one (ps_ret (pe_lst (pa_cons (pe_tup (pa_cons (pe_op op_add_str pe_str (pv 2)) (pa_cons (pe_op op_sub (pe_op op_sub (pv 4) (pv 7)) (pv 8)) pa_nil))) (pa_cons (pe_tup (pa_cons pe_str (pa_cons (pv 7) pa_nil))) (pa_cons (pe_tup (pa_cons (pe_op op_add_str pe_str (pv 2)) (pa_cons (pv 8) pa_nil))) (pa_cons (pe_tup (pa_cons (pe_op op_add_str pe_str (pv 3)) (pa_cons (pv 9) pa_nil))) (pa_cons (pe_tup (pa_cons pe_str (pa_cons (pv 7) pa_nil))) (pa_cons (pe_tup (pa_cons (pe_op op_add_str pe_str (pv 3)) (pa_cons (pe_op op_sub (pe_op op_sub (pv 5) (pv 7)) (pv 9)) pa_nil))) (pa_cons (pe_tup (pa_cons (pe_op op_add_str pe_str (pv 3)) (pa_cons (pv 4) pa_nil))) (pa_cons (pe_tup (pa_cons (pe_op op_add_str pe_str (pv 2)) (pa_cons (pv 5) pa_nil))) pa_nil))))))))))))))))), run_body (ρ := [some (.int n), some (.int s), some (.str a), some (.str b), none, none, none, none, none, none]) hs hR hK hX rfl ?_⟩
  have zz : 2 ≤ sizeLine := by decide
  have z8 : 8 ≤ sizeLine := by decide
  obtain ⟨hz, hy⟩ := ew_len hab
  have c1 : CMulW (4 * (n / 4)) (n / 2 - n / 4) := by
    have b1 : Bd 3000 (n / 4) := bdiv bn (by decide)
    have b2 : Bd 3000 (n / 2) := bdiv bn (by decide)
    refine cmw (Bd.mono (k := 3 + 3000) (Bd.mul (k := 3) (by show (4 : Int).natAbs < 2 ^ 3; decide) b1) (by decide)) ((b2.sub b1).mono (by decide))
  refine ws_seq <| ws_set <| we_op <| we_var rfl <| we_int <| ro_i ⟨by decide, by decide⟩ ?_
  refine ws_seq <| ws_set <| we_op <| we_op <| we_var rfl <| we_int <| ro_i ⟨by decide, by decide⟩ <| we_var rfl <| ro_i0 ?_
  refine ws_seq <| ws_set <| we_op <| we_op <| we_op <| we_op <| we_int <| we_var rfl <| ro_i (.inl ⟨by decide +kernel, by decide +kernel⟩) <| we_var rfl <| ro_i c1 <| we_var rfl <| ro_i0 <| we_int <| ro_i ⟨by decide, by decide⟩ ?_
  refine ws_seq <| ws_set <| we_min2 <| wa_cons <| we_int <| wa_cons <| we_var rfl <| wa_nil ⟨_, _, rfl, ?_⟩
  refine ws_seq <| ws_set <| we_min2 <| wa_cons <| we_op <| we_var rfl <| we_var rfl <| ro_i0 <| wa_cons <| we_op <| we_var rfl <| we_var rfl <| ro_i0 <| wa_nil ⟨_, _, rfl, ?_⟩
  refine ws_seq <| ws_set <| we_op <| we_op <| we_var rfl <| we_var rfl <| ro_i0 <| we_var rfl <| ro_i0 ?_
  exact ws_ret <| we_lst <| wa_cons <| we_tup <| wa_cons <| we_op <| we_str <| we_var rfl <| ro_addS (hz "n" (by decide)) <| wa_cons <| we_op <| we_op <| we_var rfl <| we_var rfl <| ro_i0 <| we_var rfl <| ro_i0 <| wa_nil ⟨zz, wa_cons <| we_tup <| wa_cons <| we_str <| wa_cons <| we_var rfl <| wa_nil ⟨zz, wa_cons <| we_tup <| wa_cons <| we_op <| we_str <| we_var rfl <| ro_addS (hz "n" (by decide)) <| wa_cons <| we_var rfl <| wa_nil ⟨zz, wa_cons <| we_tup <| wa_cons <| we_op <| we_str <| we_var rfl <| ro_addS (hy "n" (by decide)) <| wa_cons <| we_var rfl <| wa_nil ⟨zz, wa_cons <| we_tup <| wa_cons <| we_str <| wa_cons <| we_var rfl <| wa_nil ⟨zz, wa_cons <| we_tup <| wa_cons <| we_op <| we_str <| we_var rfl <| ro_addS (hy "n" (by decide)) <| wa_cons <| we_op <| we_op <| we_var rfl <| we_var rfl <| ro_i0 <| we_var rfl <| ro_i0 <| wa_nil ⟨zz, wa_cons <| we_tup <| wa_cons <| we_op <| we_str <| we_var rfl <| ro_addS (hy "s" (by decide)) <| wa_cons <| we_var rfl <| wa_nil ⟨zz, wa_cons <| we_tup <| wa_cons <| we_op <| we_str <| we_var rfl <| ro_addS (hz "s" (by decide)) <| wa_cons <| we_var rfl <| wa_nil ⟨zz, wa_nil ⟨z8, hk⟩⟩⟩⟩⟩⟩⟩⟩⟩
def pr_odd_round (T : Tx K mg) : Pr := fun ds B k e => ∃ (n s : Int) (a b : Str), ds = [.int n, .int s, .str a, .str b] ∧ (a = "e" ∧ b = "w" ∨ a = "w" ∧ b = "e") ∧ Bd 3000 n ∧ k (.lst ((odR a b n s).map prD)) B
theorem okD_odd_round (T : Tx K mg) : FnOk P w K mg base (L2.CX P w) 2 T.a_odd_round T.d_odd_round P_odd_round (spD K (pr_odd_round T)) := by
  refine T.F_odd_round.okX sc_odd_round (spD_len fun ds B k e h => by obtain ⟨n, s, a, b, rfl, hab, bn, hk⟩ := h; rfl) (fun cdv A outer s H vs Q E hr h => ?_)
  have G_most_swept : FnOk P w K mg base (L2.CX P w) 1 _ _ _ _ := okD_most_swept T
  obtain ⟨G, ds, B, k, e, hs, hR, ⟨n, s, a, b, rfl, hab, bn, hk⟩, hK, hX⟩ := h
  refine ⟨_, (pss_cons (ps_set (i := 4) sc_odd_round.nd rfl (.inl rfl) (pe_op op_fdivW (pv 0) pe_int))
 (pss_cons (ps_set (i := 5) sc_odd_round.nd rfl (.inl rfl) (pe_op op_sub (pe_op op_fdivW (pv 0) pe_int) (pv 4)))
 (pss_cons (ps_set (i := 6) sc_odd_round.nd rfl (.inl rfl) (pe_op op_fdivW (pe_op op_sub (pe_call G_most_swept (hr.mono (by decide)) (by rfl) T.g_most_swept T.F_most_swept.kp T.b_most_swept .nil passL (pa_cons (pv 0) pa_nil)) (pv 1)) pe_int))
 (pss_cons (ps_set (i := 7) sc_odd_round.nd rfl (.inl rfl) (pe_callB (call_min2 rfl) (by rfl) T.n_min (by decide +kernel) (pa_cons (pv 6) (pa_cons (pv 4) pa_nil))))
 (pss_cons (ps_set (i := 8) sc_odd_round.nd rfl (.inl rfl) (pe_op op_sub (pv 6) (pv 7)))
 (pss_one (ps_ret (pe_lst (pa_cons (pe_tup (pa_cons (pe_op op_add_str pe_str (pv 2)) (pa_cons (pe_op op_sub (pv 4) (pv 7)) pa_nil))) (pa_cons (pe_tup (pa_cons pe_str (pa_cons pe_int pa_nil))) (pa_cons (pe_tup (pa_cons (pe_op op_add_str pe_str (pv 2)) (pa_cons (pv 7) pa_nil))) (pa_cons (pe_tup (pa_cons (pe_op op_add_str pe_str (pv 3)) (pa_cons (pe_op op_sub (pv 5) pe_int) pa_nil))) (pa_cons (pe_tup (pa_cons (pe_op op_add_str pe_str (pv 3)) (pa_cons (pv 8) pa_nil))) (pa_cons (pe_tup (pa_cons (pv 3) (pa_cons pe_int pa_nil))) (pa_cons (pe_tup (pa_cons (pe_op op_add_str pe_str (pv 3)) (pa_cons (pe_op op_sub (pv 4) (pv 8)) pa_nil))) (pa_cons (pe_tup (pa_cons (pe_op op_add_str pe_str (pv 2)) (pa_cons (pv 5) pa_nil))) pa_nil)))))))))))))))), run_body (ρ := [some (.int n), some (.int s), some (.str a), some (.str b), none, none, none, none, none]) hs hR hK hX rfl ?_⟩
  have zz : 2 ≤ sizeLine := by decide
  have z8 : 8 ≤ sizeLine := by decide
  obtain ⟨hz, hy⟩ := ew_len hab
  refine ws_seq <| ws_set <| we_op <| we_var rfl <| we_int <| ro_i ⟨by decide, by decide⟩ ?_
  refine ws_seq <| ws_set <| we_op <| we_op <| we_var rfl <| we_int <| ro_i ⟨by decide, by decide⟩ <| we_var rfl <| ro_i0 ?_
  refine ws_seq <| ws_set <| we_op <| we_op <| we_call <| wa_cons <| we_var rfl <| wa_nil ⟨_, rfl, bn, we_var rfl <| ro_i0 <| we_int <| ro_i ⟨by decide, by decide⟩ ?_⟩
  refine ws_seq <| ws_set <| we_min2 <| wa_cons <| we_var rfl <| wa_cons <| we_var rfl <| wa_nil ⟨_, _, rfl, ?_⟩
  refine ws_seq <| ws_set <| we_op <| we_var rfl <| we_var rfl <| ro_i0 ?_
  exact ws_ret <| we_lst <| wa_cons <| we_tup <| wa_cons <| we_op <| we_str <| we_var rfl <| ro_addS (hz "n" (by decide)) <| wa_cons <| we_op <| we_var rfl <| we_var rfl <| ro_i0 <| wa_nil ⟨zz, wa_cons <| we_tup <| wa_cons <| we_str <| wa_cons <| we_int <| wa_nil ⟨zz, wa_cons <| we_tup <| wa_cons <| we_op <| we_str <| we_var rfl <| ro_addS (hz "n" (by decide)) <| wa_cons <| we_var rfl <| wa_nil ⟨zz, wa_cons <| we_tup <| wa_cons <| we_op <| we_str <| we_var rfl <| ro_addS (hy "n" (by decide)) <| wa_cons <| we_op <| we_var rfl <| we_int <| ro_i0 <| wa_nil ⟨zz, wa_cons <| we_tup <| wa_cons <| we_op <| we_str <| we_var rfl <| ro_addS (hy "s" (by decide)) <| wa_cons <| we_var rfl <| wa_nil ⟨zz, wa_cons <| we_tup <| wa_cons <| we_var rfl <| wa_cons <| we_int <| wa_nil ⟨zz, wa_cons <| we_tup <| wa_cons <| we_op <| we_str <| we_var rfl <| ro_addS (hy "s" (by decide)) <| wa_cons <| we_op <| we_var rfl <| we_var rfl <| ro_i0 <| wa_nil ⟨zz, wa_cons <| we_tup <| wa_cons <| we_op <| we_str <| we_var rfl <| ro_addS (hz "s" (by decide)) <| wa_cons <| we_var rfl <| wa_nil ⟨zz, wa_nil ⟨z8, hk⟩⟩⟩⟩⟩⟩⟩⟩⟩
end
end AW

set_option linter.all false
set_option maxRecDepth 100000
set_option maxHeartbeats 8000000
namespace AW
open PySem PySem.Spec PyProof.Rows L2
variable [Tbs]
section
variable {P : Program} {w : World} {K : PySem.W.Frag} {mg : Str → Option Value} {base : Heap} [CDict K w "STRIDES" L_STRIDES]
abbrev kwD (T : Tx K mg) (ps : List Rn) : D := .ins T.C_KingWalk ["runs"] [.tup (ps.map prD)]
theorem kit_self {K : PySem.W.Frag} {t : Value} : PySem.W.kitOne K t t = some true := by
  unfold PySem.W.kitOne
  rw [if_pos (by simp)]
theorem sp_lookup {c : Str} (h : c ∈ ways) : (L_STRIDES.lookup c).isSome = true := by rw [look_way h]; rfl
theorem ok_BadWord_init (T : Tx K mg) : FnOk P w K mg base (L2.CX P w) 1 T.a_BadWord_init T.d_BadWord_init P_BadWord_init (sp_einit T.C_BadWord "value") := by
  refine T.F_BadWord_init.okX sc_BadWord_init (fun vs H Q E h => ?_) (fun cdv A outer s H vs Q E hr h => ?_)
  · obtain ⟨a, v, rfl, _⟩ := h
    rfl
  · obtain ⟨a, v, rfl, ha, k⟩ := h
    refine ⟨_, pss_one (ps_ost (pv 0) (pv 1)), ?_⟩
    exact ⟨_, rfl, _, rfl, a, T.C_BadWord, rfl, T.X_BadWord, T.na_BadWord_value, .inl ⟨ha, fun dx hd ne => k dx hd ne⟩⟩
def pr_KingWalk_init (T : Tx K mg) : List D → Int → (List D → Int → Prop) → EW → Prop := fun ds B k e => ∃ ps, ds = [.lst (ps.map prD)] ∧ GoodK ps ∧ ps.length ≤ 1000000 ∧ k [.tup ((joinF ps).map prD)] B
theorem okD_KingWalk_init (T : Tx K mg) : FnOk P w K mg base (L2.CX P w) 5 T.a_KingWalk_init T.d_KingWalk_init P_KingWalk_init (spI K T.C_KingWalk ["runs"] (pr_KingWalk_init T)) := by
  have G_check_whole : FnOk P w K mg base (L2.CX P w) 4 _ _ _ _ := okD_check_whole T
  have G_joined_runs : FnOk P w K mg base (L2.CX P w) 1 _ _ _ _ := okD_joined_runs T
  have G_BadWord_init : FnOk P w K mg base (L2.CX P w) 1 _ _ _ _ := ok_BadWord_init T
  refine T.F_KingWalk_init.okX sc_KingWalk_init (fun vs H Q E h => ?_) (fun cdv A outer s H vs Q E hr h => ?_)
  · obtain ⟨p, dx, ws, G, ds, B, k, e, rfl, hp, gp, gdx, ne, hd, hs, hR, ⟨ps, rfl, _⟩, hK, hX⟩ := h
    rw [List.length_cons, ← hR.length]
    rfl
  · obtain ⟨p, dx, ws, G, ds, B, k, e, rfl, hp, gp, gdx, ne, hd, hs, hR, ⟨ps, rfl, hg, hl, hk⟩, hK, hX⟩ := h
    obtain ⟨v, _, rfl, rv, rfl⟩ := hR
    refine ⟨_, (pss_cons (ps_for (passes_of rfl) rfl (pi_list (pv 1)) (pg_tup rfl (pgs_cons (pg_name (i := 2) sc_KingWalk_init.nd rfl (.inl rfl)) (pgs_cons (pg_name (i := 3) sc_KingWalk_init.nd rfl (.inl rfl)) pgs_nil)))
 (pss_cons (ps_if (PW.pt (pw_or (pt_not (pt_val (pe_callB call_isi (by rfl) T.n_isinstance (by decide +kernel) (pa_cons (pv 2) (pa_cons (pe_bltn (v := .ty "str") (by rfl) T.n_str (by decide +kernel) rfl) pa_nil))))) (pw_or1 (pt_cmp (pc_cdNotIn (cd := (inferInstance : CDict K w "STRIDES" L_STRIDES)) (by decide) (by rfl) T.ns_STRIDES T.gc_STRIDES (pv 2))))))
 (pss_one (ps_raise rfl (takes_of rfl rfl rfl rfl) (pmk_oex T.X_BadWord T.ei_BadWord T.et_BadWord G_BadWord_init (hr.mono (by decide)) T.b_BadWord_init .nil passL rfl T.g_C_BadWord (by exact (pa_cons (pv 2) pa_nil)))))
 pss_nil)
 (pss_one (ps_expr (pe_call G_check_whole (hr.mono (by decide)) (by rfl) T.g_check_whole T.F_check_whole.kp T.b_check_whole .nil (passE (E := E)) (pa_cons (pv 3) pa_nil))))))
 (pss_one (ps_fld (pv 0) (pe_call G_joined_runs (hr.mono (by decide)) (by rfl) T.g_joined_runs T.F_joined_runs.kp T.b_joined_runs .nil (passE (E := E)) (pa_cons (pv 1) pa_nil)) rfl))), ?_⟩
    have en : EnvR K G B [some (.val (.ref p)), some (.lst (ps.map prD)), none, none] (L2.start N_KingWalk_init [.ref p, v]) := ⟨_, _, rfl, fun d q => by cases q; exact ⟨_, rfl, rfl⟩, _, _, rfl, fun d q => by cases q; exact ⟨_, rfl, rv⟩, _, _, rfl, (fun d q => nomatch q), _, _, rfl, (fun d q => nomatch q), rfl⟩
    have kss : PySem.W.kitOne K (.type "str") (.type "str") = some true := kit_self
    have J : ∀ r : TS, Ws K E e (tFor (iList K (tVar 1)) (gTup K 2 (gCons (gName 2) (gCons (gName 3) gNil))) (tSeq (tIfS (tOr (tNot (tB (tCB (rIsi K) (tCons (tVar 2) (tCons (tC (.ty "str")) tNil))))) (tB (tCDIn true L_STRIDES (tVar 2)))) r tNext) (tDrop (tCall (spD K (pr_check_whole T)) [] E (tCons (tVar 3) tNil))))) [some (.val (.ref p)), some (.lst (ps.map prD)), none, none] B { nx := fun ρ' B' => ∃ o2 o3, ρ' = [some (.val (.ref p)), some (.lst (ps.map prD)), o2, o3] ∧ B' = B, rt := fun _ _ => False } := by
      intro r
      refine ws_for_list <| we_var rfl ⟨_, rfl, fun i ρ' B' => ∃ o2 o3, ρ' = [some (.val (.ref p)), some (.lst (ps.map prD)), o2, o3] ∧ B' = B, ⟨_, _, rfl, rfl⟩, fun i x ρ' B' hi hI => ?_, fun ρ' B' hI => hI⟩
      obtain ⟨o2, o3, rfl, rfl⟩ := hI
      rw [List.getElem?_map] at hi
      obtain ⟨q, hq, rfl⟩ := Option.map_eq_some_iff.mp hi
      have hm := hg q (List.mem_of_getElem? hq)
      refine wg_tup rfl <| wgs_cons <| wg_name <| wgs_cons <| wg_name <| wgs_nil ?_
      refine ws_seq <| ws_if <| wt_or <| wt_not <| wt_val <| we_isi1 <| we_var rfl ⟨tyD_str, kss, _, rfl, (fun h => nomatch h), fun _ => ?_⟩
      refine wt_val <| we_cdIn <| we_var rfl ⟨_, rfl, _, rfl, fun h => ?_, fun _ => ws_next ?_⟩
      · rw [sp_lookup hm.1] at h; cases h
      · exact ws_drop <| we_callE <| wa_cons <| we_var rfl <| wa_nil ⟨_, rfl, .inl ⟨q.2, rfl, hm.2, ⟨_, _, rfl, rfl⟩⟩⟩
    refine J _ _ H G _ hs en hX ⟨fun ρ' σ' B' G' H' hz ex en' => ?_, fun _ _ _ _ _ h => h.elim, fun _ _ _ _ _ h => h.elim, fun _ _ _ _ _ h => h.elim⟩
    obtain ⟨o2, o3, eρ, eB⟩ := hz
    subst eρ eB
    have J2 : We K E e (tCall (spD K (pr_joined_runs T)) [] E (tCons (tVar 1) tNil)) [some (.val (.ref p)), some (.lst (ps.map prD)), o2, o3] B' (fun d B2 => d = .tup ((joinF ps).map prD) ∧ B2 = B') := we_call <| wa_cons <| we_var rfl <| wa_nil ⟨ps, rfl, hl, rfl, rfl⟩
    refine J2 _ H' G' _ ex.sub en' (hX.ext ex) fun d v2 B2 G2 H2 hz ex2 r2 => ?_
    obtain ⟨ed, eB⟩ := hz
    subst ed eB
    obtain ⟨_, _, rfl, h0, _⟩ := en'
    obtain ⟨u0, rfl, e0⟩ := h0 _ rfl
    obtain rfl : u0 = .ref p := e0
    have e12 := ex.trans ex2
    obtain ⟨hp', gp'⟩ := e12.fr p _ hp gp ⟨(fun _ z => nomatch z), fun _ z => nomatch z⟩
    refine ⟨_, rfl, p, T.C_KingWalk, dx, [], rfl, hp', T.cl_KingWalk, T.na_KingWalk_runs, (by decide), ?_⟩
    refine hK _ [v2] _ G2 _ hk e12.le (fun a o z => ?_) (fun a o z n nb nt => ?_) gp' ?_ rfl ⟨_, _, rfl, r2, rfl⟩
    · rw [upd_ne (ne_of_none z gp')]
      exact e12.sub _ _ z
    · obtain ⟨z1, z2⟩ := e12.fr a o z n nt
      exact ⟨by rw [upd_ne nb]; exact z1, z2⟩
    · rw [upd_same]
      simp [putF]
def pr_KingWalk_swept (T : Tx K mg) : Pr := fun ds B k e => ∃ ps : List Rn, ds = [kwD T ps] ∧ GoodK ps ∧ BdK ps ∧ k (.int (kP ps).2.2) B
theorem okD_KingWalk_swept (T : Tx K mg) : FnOk P w K mg base (L2.CX P w) 2 T.a_KingWalk_swept T.d_KingWalk_swept P_KingWalk_swept (spD K (pr_KingWalk_swept T)) := by
  refine T.F_KingWalk_swept.okX sc_KingWalk_swept (spD_len fun ds B k e h => by obtain ⟨ps, rfl, hg, hb, hk⟩ := h; rfl) (fun cdv A outer s H vs Q E hr h => ?_)
  have G_king_figures : FnOk P w K mg base (L2.CX P w) 1 _ _ _ _ := okD_king_figures T
  obtain ⟨G, ds, B, k, e, hs, hR, ⟨ps, rfl, hg, hb, hk⟩, hK, hX⟩ := h
  refine ⟨_, (pss_one (ps_ret (pe_ix ix_tup (pe_call G_king_figures (hr.mono (by decide)) (by rfl) T.g_king_figures T.F_king_figures.kp T.b_king_figures .nil passL (pa_cons (pe_fld (pv 0) rfl) pa_nil)) pe_int (fun _ _ => rfl)))), run_body (ρ := [some (kwD T ps)]) hs hR hK hX rfl ?_⟩
  rw [← kP_wv] at hk
  exact ws_ret <| we_op <| we_call <| wa_cons <| we_fld <| we_var rfl ⟨_, _, _, _, rfl, T.cl_KingWalk, T.na_KingWalk_runs, rfl, wa_nil ⟨true, ps, rfl, hg, hb, we_int <| ro_ixT rfl hk⟩⟩
end
end AW

set_option linter.all false
set_option maxRecDepth 100000
set_option maxHeartbeats 8000000
namespace AW
open PySem PySem.Spec PyProof.Rows L2
variable [Tbs]
section
variable {P : Program} {w : World} {K : PySem.W.Frag} {mg : Str → Option Value} {base : Heap} [CDict K w "STRIDES" L_STRIDES]
def pr_check_integer (T : Tx K mg) : Pr := fun ds B k e => ∃ i : Int, ds = [.int i] ∧ k .non B
theorem okD_check_integer (T : Tx K mg) : FnOk P w K mg base (L2.CX P w) 3 T.a_check_integer T.d_check_integer P_check_integer (spD K (pr_check_integer T)) := by
  refine T.F_check_integer.okX sc_check_integer (spD_len fun ds B k e h => by obtain ⟨i, rfl, hk⟩ := h; rfl) (fun cdv A outer s H vs Q E hr h => ?_)
  have G_BadNumber_init : FnOk P w K mg base (L2.CX P w) 1 _ _ _ _ := ok_BadNumber_init T
  have G_is_integer : FnOk P w K mg base (L2.CX P w) 1 _ _ _ _ := okD_is_integer T
  obtain ⟨G, ds, B, k, e, hs, hR, ⟨i, rfl, hk⟩, hK, hX⟩ := h
  refine ⟨_, (pss_one (ps_if (pt_not (pt_val (pe_call G_is_integer (hr.mono (by decide)) (by rfl) T.g_is_integer T.F_is_integer.kp T.b_is_integer .nil (passE (E := E)) (pa_cons (pv 0) pa_nil))))
 (pss_one (ps_raise rfl (takes_of rfl rfl rfl rfl) (pmk_oex T.X_BadNumber T.ei_BadNumber T.et_BadNumber G_BadNumber_init (hr.mono (by decide)) T.b_BadNumber_init .nil passL rfl T.g_C_BadNumber (by exact (pa_cons (pv 0) pa_nil)))))
 pss_nil)), run_body (ρ := [some (.int i)]) hs hR hK hX rfl ?_⟩
  exact ws_if <| wt_not <| wt_val <| we_call <| wa_cons <| we_var rfl <| wa_nil ⟨_, rfl, rfl, _, rfl, (fun h => nomatch h), fun _ => ws_next hk⟩
abbrev abI (s : Int) : Int := if s < 0 then -s else s
theorem abI_nn (s : Int) : 0 ≤ abI s := by unfold abI; split <;> omega
theorem abI_bd {s : Int} {k : Nat} (h : Bd k s) : Bd k (abI s) := by unfold Bd abI at *; split <;> omega
def pr_king_most (T : Tx K mg) : Pr := fun ds B k e => ∃ n : Int, ds = [.int n] ∧ 0 ≤ n ∧ n ≠ 1 ∧ Bd 3000 n ∧ k (.int (kgM n)) B
theorem okD_king_most (T : Tx K mg) : FnOk P w K mg base (L2.CX P w) 5 T.a_king_most T.d_king_most P_king_most (spD K (pr_king_most T)) := by
  refine T.F_king_most.okX sc_king_most (spD_len fun ds B k e h => by obtain ⟨n, rfl, n0, n1, bn, hk⟩ := h; rfl) (fun cdv A outer s H vs Q E hr h => ?_)
  have G_check_whole : FnOk P w K mg base (L2.CX P w) 4 _ _ _ _ := okD_check_whole T
  have G_most_swept : FnOk P w K mg base (L2.CX P w) 1 _ _ _ _ := okD_most_swept T
  obtain ⟨G, ds, B, k, e, hs, hR, ⟨n, rfl, n0, n1, bn, hk⟩, hK, hX⟩ := h
  refine ⟨_, (pss_cons (ps_expr (pe_call G_check_whole (hr.mono (by decide)) (by rfl) T.g_check_whole T.F_check_whole.kp T.b_check_whole .nil (passE (E := E)) (pa_cons (pv 0) pa_nil)))
 (pss_one (ps_ret (pe_ifExp (pt_cmpR op_eq (pv 0) pe_int (nomark _)) pe_non (pe_call G_most_swept (hr.mono (by decide)) (by rfl) T.g_most_swept T.F_most_swept.kp T.b_most_swept .nil (passE (E := E)) (pa_cons (pv 0) pa_nil)))))), run_body (ρ := [some (.int n)]) hs hR hK hX rfl ?_⟩
  refine ws_seq <| ws_drop <| we_callE <| wa_cons <| we_var rfl <| wa_nil ⟨_, rfl, .inl ⟨n, rfl, n0, ?_⟩⟩
  refine ws_ret <| we_ifE <| wt_test <| we_op <| we_var rfl <| we_int <| ro_eqI ⟨_, rfl, fun h => absurd (of_decide_eq_true h) n1, fun _ => ?_⟩
  exact we_call <| wa_cons <| we_var rfl <| wa_nil ⟨n, rfl, bn, hk⟩
def pr_king_least (T : Tx K mg) : Pr := fun ds B k e => ∃ s : Int, ds = [.int s] ∧ Bd 3000 s ∧ ∀ f : Int, Fk (abI s) f → k (.int f) B
theorem okD_king_least (T : Tx K mg) : FnOk P w K mg base (L2.CX P w) 5 T.a_king_least T.d_king_least P_king_least (spD K (pr_king_least T)) := by
  refine T.F_king_least.okX sc_king_least (spD_len fun ds B k e h => by obtain ⟨s, rfl, bs, hk⟩ := h; rfl) (fun cdv A outer s H vs Q E hr h => ?_)
  have G_check_integer : FnOk P w K mg base (L2.CX P w) 3 _ _ _ _ := okD_check_integer T
  have G_fewest_king_steps : FnOk P w K mg base (L2.CX P w) 1 _ _ _ _ := okD_fewest_king_steps T
  obtain ⟨G, ds, B, k, e, hs, hR, ⟨s, rfl, bs, hk⟩, hK, hX⟩ := h
  refine ⟨_, (pss_cons (ps_expr (pe_call G_check_integer (hr.mono (by decide)) (by rfl) T.g_check_integer T.F_check_integer.kp T.b_check_integer .nil (passE (E := E)) (pa_cons (pv 0) pa_nil)))
 (pss_one (ps_ret (pe_call G_fewest_king_steps (hr.mono (by decide)) (by rfl) T.g_fewest_king_steps T.F_fewest_king_steps.kp T.b_fewest_king_steps .nil (passE (E := E)) (pa_cons (pe_callB call_abs (by rfl) T.n_abs (by decide +kernel) (pa_cons (pv 0) pa_nil)) pa_nil))))), run_body (ρ := [some (.int s)]) hs hR hK hX rfl ?_⟩
  refine ws_seq <| ws_drop <| we_callE <| wa_cons <| we_var rfl <| wa_nil ⟨_, rfl, ?_⟩
  exact ws_ret <| we_call <| wa_cons <| we_abs <| wa_cons <| we_var rfl <| wa_nil ⟨_, rfl, wa_nil ⟨abI s, rfl, abI_nn s, abI_bd bs, hk⟩⟩
def pr_king_round (T : Tx K mg) : Pr := fun ds B k e => ∃ n s : Int, ds = [.int n, .int s] ∧ 0 ≤ n ∧ Bd 3000 n ∧ Bd 3000 s ∧ ∀ f : Int, Fk (abI s) f → ((n < f ∨ (n - f) % 2 = 1) → k .non B) ∧ (f ≤ n → (n - f) % 2 = 0 → ∀ ps, Rnd n s ps → k (kwD T ps) B)
theorem okD_king_round (T : Tx K mg) : FnOk P w K mg base (L2.CX P w) 7 T.a_king_round T.d_king_round P_king_round (spD K (pr_king_round T)) := by
  refine T.F_king_round.okX sc_king_round (spD_len fun ds B k e h => by obtain ⟨n, s, rfl, n0, bn, bs, hk⟩ := h; rfl) (fun cdv A outer s H vs Q E hr h => ?_)
  have G_KingWalk_init : FnOk P w K mg base (L2.CX P w) 5 _ _ _ _ := okD_KingWalk_init T
  have G_check_integer : FnOk P w K mg base (L2.CX P w) 3 _ _ _ _ := okD_check_integer T
  have G_check_whole : FnOk P w K mg base (L2.CX P w) 4 _ _ _ _ := okD_check_whole T
  have G_even_round : FnOk P w K mg base (L2.CX P w) 1 _ _ _ _ := okD_even_round T
  have G_fewest_king_steps : FnOk P w K mg base (L2.CX P w) 1 _ _ _ _ := okD_fewest_king_steps T
  have G_odd_round : FnOk P w K mg base (L2.CX P w) 2 _ _ _ _ := okD_odd_round T
  obtain ⟨G, ds, B, k, e, hs, hR, ⟨n, s, rfl, n0, bn, bs, hk⟩, hK, hX⟩ := h
  refine ⟨_, (pss_cons (ps_expr (pe_call G_check_whole (hr.mono (by decide)) (by rfl) T.g_check_whole T.F_check_whole.kp T.b_check_whole .nil (passE (E := E)) (pa_cons (pv 0) pa_nil)))
 (pss_cons (ps_expr (pe_call G_check_integer (hr.mono (by decide)) (by rfl) T.g_check_integer T.F_check_integer.kp T.b_check_integer .nil (passE (E := E)) (pa_cons (pv 1) pa_nil)))
 (pss_cons (ps_set (i := 2) sc_king_round.nd rfl (.inl rfl) (pe_call G_fewest_king_steps (hr.mono (by decide)) (by rfl) T.g_fewest_king_steps T.F_fewest_king_steps.kp T.b_fewest_king_steps .nil (passE (E := E)) (pa_cons (pe_callB call_abs (by rfl) T.n_abs (by decide +kernel) (pa_cons (pv 1) pa_nil)) pa_nil)))
 (pss_cons (ps_if (PW.pt (pw_or (pt_cmpR op_gt (pv 2) (pv 0) (nomark _)) (pw_or1 (pt_cmpR op_eq (pe_op op_andM (pe_op op_sub (pv 0) (pv 2)) pe_int) pe_int (nomark _)))))
 (pss_one (ps_ret pe_non))
 pss_nil)
 (pss_cons (ps_set (i := 3) sc_king_round.nd rfl (.inl rfl) (pe_op op_fdivW (pe_op op_sub (pv 0) (pv 2)) pe_int))
 (pss_cons (ps_asg (pe_ifExp (pt_cmpR op_ge (pv 1) pe_int (nomark _)) (pe_tup (pa_cons pe_str (pa_cons pe_str pa_nil))) (pe_tup (pa_cons pe_str (pa_cons pe_str pa_nil)))) (pg_tup rfl (pgs_cons (pg_name (i := 4) sc_king_round.nd rfl (.inl rfl)) (pgs_cons (pg_name (i := 5) sc_king_round.nd rfl (.inl rfl)) pgs_nil))))
 (pss_cons (ps_set (i := 6) sc_king_round.nd rfl (.inl rfl) (pe_ifExp (pt_cmpR op_eq (pe_op op_andM (pv 2) pe_int) pe_int (nomark _)) (pe_call G_odd_round (hr.mono (by decide)) (by rfl) T.g_odd_round T.F_odd_round.kp T.b_odd_round .nil (passE (E := E)) (pa_cons (pv 2) (pa_cons (pe_callB call_abs (by rfl) T.n_abs (by decide +kernel) (pa_cons (pv 1) pa_nil)) (pa_cons (pv 4) (pa_cons (pv 5) pa_nil))))) (pe_call G_even_round (hr.mono (by decide)) (by rfl) T.g_even_round T.F_even_round.kp T.b_even_round .nil (passE (E := E)) (pa_cons (pv 2) (pa_cons (pe_callB call_abs (by rfl) T.n_abs (by decide +kernel) (pa_cons (pv 1) pa_nil)) (pa_cons (pv 4) (pa_cons (pv 5) pa_nil)))))))
 (pss_one (ps_ret (pe_make T.M_KingWalk G_KingWalk_init (hr.mono (by decide)) (by rfl) T.g_C_KingWalk T.b_KingWalk_init .nil (passE (E := E)) (pa_cons (pe_lst (pa_cons (pe_tup (pa_cons (pv 4) (pa_cons (pv 3) pa_nil))) (pa_cons (pe_tup (pa_cons (pv 5) (pa_cons (pv 3) pa_nil))) (StX.pa_star (pv 6) pa_nil)))) pa_nil))))))))))), run_body (ρ := [some (.int n), some (.int s), none, none, none, none, none]) hs hR hK hX rfl ?_⟩
  have zz : 2 ≤ sizeLine := by decide
  have z10 : 10 ≤ sizeLine := by decide
  refine ws_seq <| ws_drop <| we_callE <| wa_cons <| we_var rfl <| wa_nil ⟨_, rfl, .inl ⟨n, rfl, n0, ?_⟩⟩
  refine ws_seq <| ws_drop <| we_callE <| wa_cons <| we_var rfl <| wa_nil ⟨_, rfl, ?_⟩
  refine ws_seq <| ws_set <| we_call <| wa_cons <| we_abs <| wa_cons <| we_var rfl <| wa_nil ⟨_, rfl, wa_nil ⟨abI s, rfl, abI_nn s, abI_bd bs, fun f hf => ?_⟩⟩
  obtain ⟨k1, k2⟩ := hk f hf
  refine ws_cut (fun ρ' B' => (f ≤ n ∧ (n - f) % 2 = 0) ∧ ρ' = [some (.int n), some (.int s), some (.int f), none, none, none, none] ∧ B = B') ?_ ?_
  · refine ws_if <| wt_or <| wt_test <| we_op <| we_var rfl <| we_var rfl <| ro_b0 ⟨_, rfl, fun c => ⟨fun _ => ws_ret <| we_non (k1 (.inl (of_decide_eq_true c))), fun h => nomatch h⟩, fun c => ?_⟩
    have c := of_decide_eq_false c
    refine wt_test <| we_op <| we_op <| we_op <| we_var rfl <| we_var rfl <| ro_i0 <| we_int <| ro_and1 <| we_int <| ro_eqI ⟨_, rfl, fun c2 => ws_ret <| we_non (k1 (.inr (of_decide_eq_true c2))), fun c2 => ws_next ⟨⟨by omega, ?_⟩, rfl, rfl⟩⟩
    have c2 := of_decide_eq_false c2
    omega
  rintro _ _ ⟨⟨c1, c2⟩, rfl, rfl⟩
  have bf : Bd 3000 f := by
    have := hf.1
    unfold Bd at bn ⊢
    omega
  have hk' := k2 c1 c2 _ (rnd_ok hf c1 c2)
  refine ws_seq <| ws_set <| we_op <| we_op <| we_var rfl <| we_var rfl <| ro_i0 <| we_int <| ro_i ⟨by decide, by decide⟩ ?_
  refine ws_cut (fun ρ' B' => ρ' = [some (.int n), some (.int s), some (.int f), some (.int ((n - f) / 2)), some (.str (eW s).1), some (.str (eW s).2), none] ∧ B = B') ?_ ?_
  · exact ws_asg <| we_ifE <| wt_test <| we_op <| we_var rfl <| we_int <| ro_b0 ⟨_, rfl, fun c => we_tup <| wa_cons <| we_str <| wa_cons <| we_str <| wa_nil ⟨zz, wg_tup rfl <| wgs_cons <| wg_name <| wgs_cons <| wg_name <| wgs_nil ⟨by unfold eW; rw [if_pos (of_decide_eq_true c)]; rfl, rfl⟩⟩, fun c => we_tup <| wa_cons <| we_str <| wa_cons <| we_str <| wa_nil ⟨zz, wg_tup rfl <| wgs_cons <| wg_name <| wgs_cons <| wg_name <| wgs_nil ⟨by unfold eW; rw [if_neg (of_decide_eq_false c)]; rfl, rfl⟩⟩⟩
  rintro _ _ ⟨rfl, rfl⟩
  have hew : (eW s).1 = "e" ∧ (eW s).2 = "w" ∨ (eW s).1 = "w" ∧ (eW s).2 = "e" := by
    unfold eW
    split
    · exact .inl ⟨rfl, rfl⟩
    · exact .inr ⟨rfl, rfl⟩
  have hgood : GoodK (rndR n s f) := (rnd_good hf c1 c2)
  unfold rndR at hgood hk'
  generalize eW s = ew at hew hgood hk'
  obtain ⟨a, b⟩ := ew
  dsimp only at hew hgood hk'
  generalize hR : (if f % 2 = 1 then odR a b f (if s < 0 then -s else s) else evR a b f (if s < 0 then -s else s)) = R at hgood hk'
  have hl : R.length = 8 := by rw [← hR]; split <;> rfl
  refine ws_cut (fun ρ' B' => ρ' = [some (.int n), some (.int s), some (.int f), some (.int ((n - f) / 2)), some (.str a), some (.str b), some (.lst (R.map prD))] ∧ B = B') ?_ ?_
  · refine ws_set <| we_ifE <| wt_test <| we_op <| we_op <| we_var rfl <| we_int <| ro_and1 <| we_int <| ro_eqI ⟨_, rfl, fun c => ?_, fun c => ?_⟩
    · exact we_call <| wa_cons <| we_var rfl <| wa_cons <| we_abs <| wa_cons <| we_var rfl <| wa_nil ⟨_, rfl, wa_cons <| we_var rfl <| wa_cons <| we_var rfl <| wa_nil ⟨f, _, a, b, rfl, hew, bf, by rw [← hR, if_pos (of_decide_eq_true c)]; rfl, rfl⟩⟩
    · exact we_call <| wa_cons <| we_var rfl <| wa_cons <| we_abs <| wa_cons <| we_var rfl <| wa_nil ⟨_, rfl, wa_cons <| we_var rfl <| wa_cons <| we_var rfl <| wa_nil ⟨f, _, a, b, rfl, hew, bf, by rw [← hR, if_neg (of_decide_eq_false c)]; rfl, rfl⟩⟩
  rintro _ _ ⟨rfl, rfl⟩
  refine ws_ret <| we_make <| wa_cons <| we_lst <| wa_cons <| we_tup <| wa_cons <| we_var rfl <| wa_cons <| we_var rfl <| wa_nil ⟨zz, wa_cons <| we_tup <| wa_cons <| we_var rfl <| wa_cons <| we_var rfl <| wa_nil ⟨zz, wa_star <| we_var rfl ⟨_, .inl rfl, wa_nil ⟨?_, wa_nil ⟨(a, (n - f) / 2) :: (b, (n - f) / 2) :: R, ?_, hgood, ?_, hk'⟩⟩⟩⟩⟩
  · rw [List.append_nil, List.length_cons, List.length_cons, List.length_map, hl]; exact z10
  · rw [List.append_nil]; rfl
  · rw [List.length_cons, List.length_cons, hl]; decide
end
end AW

set_option linter.all false
set_option maxRecDepth 100000
set_option maxHeartbeats 8000000
namespace AW
open PySem PySem.Spec PyProof.Rows L2
variable [Tbs]
section
variable {P : Program} {w : World} {K : PySem.W.Frag} {mg : Str → Option Value} {base : Heap} [CDict K w "STRIDES" L_STRIDES]
abbrev wayL : List D := [.tup [.int (1), .int (0)], .tup [.int (1), .int (1)], .tup [.int (0), .int (1)], .tup [.int (-1), .int (1)], .tup [.int (-1), .int (0)], .tup [.int (-1), .int (-1)], .tup [.int (0), .int (-1)], .tup [.int (1), .int (-1)]]
theorem look_wayL {c : Str} (h : c ∈ ways) : lookD (ways.zip wayL) c = some (.tup [.int (wayV c).1, .int (wayV c).2]) := by
  rcases mem_ways h with rfl | rfl | rfl | rfl | rfl | rfl | rfl | rfl <;> kernel_rfl
def pr_l_ways (T : Tx K mg) : Pr := fun ds B k e => ds = [] ∧ k (.dk ways wayL) B
theorem okD_l_ways (T : Tx K mg) : FnOk P w K mg base (L2.CX P w) 1 T.a_l_ways T.d_l_ways P_l_ways (spD K (pr_l_ways T)) := by
  refine T.F_l_ways.okX sc_l_ways (spD_len fun ds B k e h => by obtain ⟨rfl, hk⟩ := h; rfl) (fun cdv A outer s H vs Q E hr h => ?_)
  obtain ⟨G, ds, B, k, e, hs, hR, ⟨rfl, hk⟩, hK, hX⟩ := h
  refine ⟨_, (pss_one (ps_ret (pe_disp (pps_cons pe_str (pe_tup (pa_cons pe_int (pa_cons pe_int pa_nil))) (pps_cons pe_str (pe_tup (pa_cons pe_int (pa_cons pe_int pa_nil))) (pps_cons pe_str (pe_tup (pa_cons pe_int (pa_cons pe_int pa_nil))) (pps_cons pe_str (pe_tup (pa_cons (pe_un un_neg pe_int) (pa_cons pe_int pa_nil))) (pps_cons pe_str (pe_tup (pa_cons (pe_un un_neg pe_int) (pa_cons pe_int pa_nil))) (pps_cons pe_str (pe_tup (pa_cons (pe_un un_neg pe_int) (pa_cons (pe_un un_neg pe_int) pa_nil))) (pps_cons pe_str (pe_tup (pa_cons pe_int (pa_cons (pe_un un_neg pe_int) pa_nil))) (pps_cons pe_str (pe_tup (pa_cons pe_int (pa_cons (pe_un un_neg pe_int) pa_nil))) pps_nil)))))))) (by rfl) (by rfl) (fun z => by cases z) (by decide)))), run_body (ρ := []) hs hR hK hX rfl ?_⟩
  have zz : 2 ≤ sizeLine := by decide
  have hc : ∀ p ∈ ways.zip wayL, p.1 ≠ "cells" := fun p hp => by
    have := (List.of_mem_zip hp).1
    rcases mem_ways this with h | h | h | h | h | h | h | h <;> rw [h] <;> decide +kernel
  exact ws_ret <| we_disp <| we_str ⟨_, rfl, we_tup <| wa_cons <| we_int <| wa_cons <| we_int <| wa_nil ⟨zz, we_str ⟨_, rfl, we_tup <| wa_cons <| we_int <| wa_cons <| we_int <| wa_nil ⟨zz, we_str ⟨_, rfl, we_tup <| wa_cons <| we_int <| wa_cons <| we_int <| wa_nil ⟨zz, we_str ⟨_, rfl, we_tup <| wa_cons <| we_neg <| we_int ⟨_, rfl, wa_cons <| we_int <| wa_nil ⟨zz, we_str ⟨_, rfl, we_tup <| wa_cons <| we_neg <| we_int ⟨_, rfl, wa_cons <| we_int <| wa_nil ⟨zz, we_str ⟨_, rfl, we_tup <| wa_cons <| we_neg <| we_int ⟨_, rfl, wa_cons <| we_neg <| we_int ⟨_, rfl, wa_nil ⟨zz, we_str ⟨_, rfl, we_tup <| wa_cons <| we_int <| wa_cons <| we_neg <| we_int ⟨_, rfl, wa_nil ⟨zz, we_str ⟨_, rfl, we_tup <| wa_cons <| we_int <| wa_cons <| we_neg <| we_int ⟨_, rfl, wa_nil ⟨zz, ⟨by show 8 ≤ 15; decide, hc, hk⟩⟩⟩⟩⟩⟩⟩⟩⟩⟩⟩⟩⟩⟩⟩⟩⟩⟩⟩⟩⟩⟩⟩
theorem kP_take {ps : List Rn} {i : Nat} {q : Rn} (h : ps[i]? = some q) : kP (ps.take (i + 1)) = kgT (kP (ps.take i)) q := by
  rw [List.take_add_one, h]
  exact kP_snoc _ _
def pr_l_swept_by (T : Tx K mg) : Pr := fun ds B k e => ∃ (b : Bool) (ps : List Rn), ds = [seqD b (ps.map prD)] ∧ GoodK ps ∧ BdK ps ∧ k (t3D (kP ps)) B
theorem okD_l_swept_by (T : Tx K mg) : FnOk P w K mg base (L2.CX P w) 2 T.a_l_swept_by T.d_l_swept_by P_l_swept_by (spD K (pr_l_swept_by T)) := by
  refine T.F_l_swept_by.okX sc_l_swept_by (spD_len fun ds B k e h => by obtain ⟨b, ps, rfl, hg, hb, hk⟩ := h; rfl) (fun cdv A outer s H vs Q E hr h => ?_)
  have G_l_ways : FnOk P w K mg base (L2.CX P w) 1 _ _ _ _ := okD_l_ways T
  have hu := hu_of hr
  obtain ⟨G, ds, B, k, e, hs, hR, ⟨b, ps, rfl, hg, hb, hk⟩, hK, hX⟩ := h
  refine ⟨_, (pss_cons (ps_asg (pe_tup (pa_cons pe_int (pa_cons pe_int (pa_cons pe_int pa_nil)))) (pg_tup rfl (pgs_cons (pg_name (i := 1) sc_l_swept_by.nd rfl (.inl rfl)) (pgs_cons (pg_name (i := 2) sc_l_swept_by.nd rfl (.inl rfl)) (pgs_cons (pg_name (i := 3) sc_l_swept_by.nd rfl (.inl rfl)) pgs_nil)))))
 (pss_cons (ps_for (passes_of rfl) rfl (pi_or (pi_list (pv 0)) (pi_tup (pv 0))) (pg_tup rfl (pgs_cons (pg_name (i := 4) sc_l_swept_by.nd rfl (.inl rfl)) (pgs_cons (pg_name (i := 5) sc_l_swept_by.nd rfl (.inl rfl)) pgs_nil)))
 (pss_cons (ps_asg (pe_dget hu (pe_call0 G_l_ways (hr.mono (by decide)) (by rfl) T.g_l_ways T.F_l_ways.kp T.b_l_ways .nil passL) (pv 4) (fun _ _ => rfl)) (pg_tup rfl (pgs_cons (pg_name (i := 6) sc_l_swept_by.nd rfl (.inl rfl)) (pgs_cons (pg_name (i := 7) sc_l_swept_by.nd rfl (.inl rfl)) pgs_nil))))
 (pss_cons (ps_set (i := 3) sc_l_swept_by.nd rfl (.inl rfl) (pe_op op_add (pv 3) (pe_op op_mulW (pv 5) (pe_op op_sub (pe_op op_mulW (pv 1) (pv 7)) (pe_op op_mulW (pv 2) (pv 6))))))
 (pss_one (ps_par (i := 1) (j := 2) (by rfl) sc_l_swept_by.nd rfl rfl (by decide) rfl rfl (pa_cons (pe_op op_add (pv 1) (pe_op op_mulW (pv 6) (pv 5))) (pa_cons (pe_op op_add (pv 2) (pe_op op_mulW (pv 7) (pv 5))) pa_nil)) (by rfl))))))
 (pss_one (ps_ret (pe_tup (pa_cons (pv 1) (pa_cons (pv 2) (pa_cons (pv 3) pa_nil)))))))), run_body (ρ := [some (seqD b (ps.map prD)), none, none, none, none, none, none, none]) hs hR hK hX rfl ?_⟩
  have z3 : 3 ≤ sizeLine := by decide
  refine ws_seq <| ws_asg <| we_tup <| wa_cons <| we_int <| wa_cons <| we_int <| wa_cons <| we_int <| wa_nil ⟨z3, wg_tup rfl <| wgs_cons <| wg_name <| wgs_cons <| wg_name <| wgs_cons <| wg_name <| wgs_nil ?_⟩
  refine ws_cut (fun ρ' B' => ∃ o4 o5 o6 o7, ρ' = [some (seqD b (ps.map prD)), some (.int (kP ps).1), some (.int (kP ps).2.1), some (.int (kP ps).2.2), o4, o5, o6, o7] ∧ B = B') ?_ ?_
  · refine ws_for_seq b <| we_var rfl ⟨_, rfl, fun i ρ' B' => ∃ o4 o5 o6 o7, ρ' = [some (seqD b (ps.map prD)), some (.int (kP (ps.take i)).1), some (.int (kP (ps.take i)).2.1), some (.int (kP (ps.take i)).2.2), o4, o5, o6, o7] ∧ B = B', ⟨_, _, _, _, rfl, rfl⟩, fun i d ρ' B' hi hI => ?_, fun ρ' B' hI => ?_⟩
    · obtain ⟨o4, o5, o6, o7, rfl, rfl⟩ := hI
      rw [List.getElem?_map] at hi
      obtain ⟨q, hq, rfl⟩ := Option.map_eq_some_iff.mp hi
      have hm := List.mem_of_getElem? hq
      have hw := look_wayL (hg q hm).1
      obtain ⟨b1, b2⟩ := way1 q.1
      obtain ⟨c1, c2⟩ := hb.2 i
      rw [kP_wv] at c1 c2
      have bt := hb.1 q hm
      have hst := kP_take hq
      unfold kgT at hst
      generalize kP (ps.take i) = s at c1 c2 hst
      obtain ⟨x, y, a⟩ := s
      generalize wayV q.1 = v at hw b1 b2 hst
      obtain ⟨u, v⟩ := v
      dsimp only at c1 c2 b1 b2 hw
      have m1 : CMulW x v := cmw (c1.mono (by decide)) (b2.mono (by decide))
      have m2 : CMulW y u := cmw (c2.mono (by decide)) (b1.mono (by decide))
      have m3 : CMulW q.2 (x * v - y * u) := cmw (bt.mono (by decide)) ((((c1.mul b2).sub (c2.mul b1))).mono (by decide))
      have m4 : CMulW u q.2 := cmw (b1.mono (by decide)) (bt.mono (by decide))
      have m5 : CMulW v q.2 := cmw (b2.mono (by decide)) (bt.mono (by decide))
      have e1 : (kgS (x, y, a) ((u, v), q.2)) = (x + u * q.2, y + v * q.2, a + q.2 * (x * v - y * u)) := by
        rw [Int.mul_comm u, Int.mul_comm v]; rfl
      rw [e1] at hst
      refine wg_tup rfl <| wgs_cons <| wg_name <| wgs_cons <| wg_name <| wgs_nil ?_
      refine ws_seq <| ws_asg <| we_dget <| we_call <| wa_nil ⟨rfl, ways.zip wayL, rfl, we_var rfl ⟨q.1, _, rfl, hw, wg_tup rfl <| wgs_cons <| wg_name <| wgs_cons <| wg_name <| wgs_nil ?_⟩⟩
      refine ws_seq <| ws_set <| we_op <| we_var rfl <| we_op <| we_var rfl <| we_op <| we_op <| we_var rfl <| we_var rfl <| ro_i m1 <| we_op <| we_var rfl <| we_var rfl <| ro_i m2 <| ro_i0 <| ro_i m3 <| ro_i0 ?_
      exact ws_par <| wa_cons <| we_op <| we_var rfl <| we_op <| we_var rfl <| we_var rfl <| ro_i m4 <| ro_i0 <| wa_cons <| we_op <| we_var rfl <| we_op <| we_var rfl <| we_var rfl <| ro_i m5 <| ro_i0 <| wa_nil ⟨_, _, rfl, some (.str q.1), some (.int q.2), some (.int u), some (.int v), by rw [hst]; rfl, rfl⟩
    · obtain ⟨o4, o5, o6, o7, rfl, rfl⟩ := hI
      rw [List.length_map, List.take_length]
      exact ⟨_, _, _, _, rfl, rfl⟩
  rintro _ _ ⟨o4, o5, o6, o7, rfl, rfl⟩
  exact ws_ret <| we_tup <| wa_cons <| we_var rfl <| wa_cons <| we_var rfl <| wa_cons <| we_var rfl <| wa_nil ⟨z3, hk⟩
theorem ty_king (T : Tx K mg) (ps : List Rn) : TyD K (kwD T ps) (.ref T.C_KingWalk) := fun v G H B s r => by
  obtain ⟨a, dx, us, rfl, ha, _⟩ := r
  exact .base (.ins (s _ _ ha) T.cl_KingWalk T.ca_KingWalk T.cn T.ct T.cm_KingWalk)
def pr_l_is_round (T : Tx K mg) : Pr := fun ds B k e => ∃ n s : Int, ds = [.int n, .int s] ∧ 0 ≤ n ∧ Bd 3000 n ∧ Bd 3000 s ∧ abI s ≤ kgM n ∧ s % 2 = n % 2 ∧ k (.bl true) B
theorem okD_l_is_round (T : Tx K mg) : FnOk P w K mg base (L2.CX P w) 8 T.a_l_is_round T.d_l_is_round P_l_is_round (spD K (pr_l_is_round T)) := by
  refine T.F_l_is_round.okX sc_l_is_round (spD_len fun ds B k e h => by obtain ⟨n, s, rfl, n0, bn, bs, hm, hp, hk⟩ := h; rfl) (fun cdv A outer s H vs Q E hr h => ?_)
  have G_king_round : FnOk P w K mg base (L2.CX P w) 7 _ _ _ _ := okD_king_round T
  have G_l_swept_by : FnOk P w K mg base (L2.CX P w) 2 _ _ _ _ := okD_l_swept_by T
  obtain ⟨G, ds, B, k, e, hs, hR, ⟨n, s, rfl, n0, bn, bs, hm, hp, hk⟩, hK, hX⟩ := h
  refine ⟨_, (pss_cons (ps_set (i := 2) sc_l_is_round.nd rfl (.inl rfl) (pe_call G_king_round (hr.mono (by decide)) (by rfl) T.g_king_round T.F_king_round.kp T.b_king_round .nil passL (pa_cons (pv 0) (pa_cons (pv 1) pa_nil))))
 (pss_cons (ps_if (PW.pt (pw_or (pt_not (pt_val (pe_callB call_isi (by rfl) T.n_isinstance (by decide +kernel) (pa_cons (pv 2) (pa_cons (pe_glob (v := .ref T.C_KingWalk) (by rfl) T.g_C_KingWalk rfl) pa_nil))))) (pw_or1 (pt_cmpR op_gt (pe_callB call_len_seq (by rfl) T.n_len (by decide +kernel) (pa_cons (pe_fld (pv 2) rfl) pa_nil)) pe_int (nomark _)))))
 (pss_one (ps_ret pe_bl))
 pss_nil)
 (pss_one (ps_ret (pe_and (pe_cmpR (op_eqD hr.units) (pe_call G_l_swept_by (hr.mono (by decide)) (by rfl) T.g_l_swept_by T.F_l_swept_by.kp T.b_l_swept_by .nil passL (pa_cons (pe_fld (pv 2) rfl) pa_nil)) (pe_tup (pa_cons pe_int (pa_cons pe_int (pa_cons (pv 1) pa_nil)))) (nomark _)) (pe_one (pe_cmpR op_eq (pe_callB (cr_sum rfl) (by rfl) T.n_sum (by decide +kernel) (pa_cons (pe_lc (own := [("_law_way", 3), ("_law_times", 4)]) (g := gTup K 2 (gCons (gName 3) (gCons (gName 4) gNil))) (by rfl) sc_l_is_round.nd (pi_tup (pe_fld (pv 2) rfl)) (blkOk_by (own := [("_law_way", 3), ("_law_times", 4)]) (N := N_l_is_round) (sc := defScope s_l_is_round) (by decide +kernel)) (fun _ _ _ _ _ => pg_tup rfl (pgs_cons (pg_name (i := 3) sc_l_is_round.nd rfl (Or.inl rfl)) (pgs_cons (pg_name (i := 4) sc_l_is_round.nd rfl (Or.inl rfl)) pgs_nil))) (fun _ _ _ _ _ => pts_nil) (fun _ _ _ _ _ => (pv 4))) pa_nil)) (pv 0) (nomark _)))))))), run_body (ρ := [some (.int n), some (.int s), none, none, none]) hs hR hK hX rfl ?_⟩
  have z3 : 3 ≤ sizeLine := by decide
  have zL : 100 < sizeLine := by decide
  have pa : abI s % 2 = n % 2 := by unfold abI; split <;> omega
  refine ws_seq <| ws_set <| we_call <| wa_cons <| we_var rfl <| wa_cons <| we_var rfl <| wa_nil ⟨n, s, rfl, n0, bn, bs, fun f hf => ?_⟩
  have fn : f ≤ n := (hf.2.2.2 n n0 pa.symm).mpr hm
  have fp := hf.2.1
  refine ⟨fun h => by omega, fun _ _ ps hr => ?_⟩
  obtain ⟨hg, hl, hk1, hk2⟩ := hr
  refine ws_seq <| ws_if <| wt_or <| wt_not <| wt_val <| we_isiC <| we_var rfl ⟨ty_king T ps, kit_self, _, rfl, (fun h => nomatch h), fun _ => ?_⟩
  refine wt_test <| we_op <| we_lenT <| wa_cons <| we_fld <| we_var rfl ⟨_, _, _, _, rfl, T.cl_KingWalk, T.na_KingWalk_runs, rfl, wa_nil ⟨_, rfl, we_int <| ro_b0 ⟨_, rfl, fun h => ?_, fun _ => ws_next ?_⟩⟩⟩
  · have h := of_decide_eq_true h
    rw [List.length_map] at h
    omega
  · refine ws_ret <| we_and <| we_op <| we_call <| wa_cons <| we_fld <| we_var rfl ⟨_, _, _, _, rfl, T.cl_KingWalk, T.na_KingWalk_runs, rfl, wa_nil ⟨true, ps, rfl, hg, bdK_of hg (by rw [hk2]; exact bn), we_tup <| wa_cons <| we_int <| wa_cons <| we_int <| wa_cons <| we_var rfl <| wa_nil ⟨z3, ro_eqD rfl rfl rfl rfl ?_⟩⟩⟩
    rw [hk1, show PyData.eqv (py (t3D (0, 0, s))) (py (.tup [.int 0, .int 0, .int s])) = true from eqv_self (t3D (0, 0, s))]
    refine ⟨_, rfl, (fun _ => ?_), fun h => nomatch h⟩
    refine we_op <| we_sum <| wa_cons <| we_lc_pairT (E1 := E0) (by decide) <| we_fld <| we_var rfl ⟨_, _, _, _, rfl, T.cl_KingWalk, T.na_KingWalk_runs, rfl, ps.map (fun q => (D.str q.1, D.int q.2)), ?_, by rw [List.length_map]; omega, fun _ d => d, fun i x y hi k' hk' => we_var rfl hk', wa_nil ⟨ps.map (·.2), ?_, we_var rfl <| ro_eqI ?_⟩⟩
    · rw [List.map_map]; rfl
    · rw [List.map_map, List.map_map]; rfl
    · rw [decide_eq_true (show (ps.map (·.2)).sum = n from hk2)]
      exact hk
end
end AW

set_option linter.all false
set_option maxRecDepth 100000
set_option maxHeartbeats 8000000
namespace AW
open PySem PySem.Spec PyProof.Rows L2
variable [Tbs]
section
variable {P : Program} {w : World} {K : PySem.W.Frag} {mg : Str → Option Value} {base : Heap} [CDict K w "STRIDES" L_STRIDES]
theorem cut8 (x0 x1 x2 x3 x4 x5 x6 x7 : D) : ∀ k : Nat, k ≤ 8 → cutD [x0, x1, x2, x3, x4, x5, x6, x7] none (some (k : Int)) = [x0, x1, x2, x3, x4, x5, x6, x7].take k ∧ cutD [x0, x1, x2, x3, x4, x5, x6, x7] (some (k : Int)) none = [x0, x1, x2, x3, x4, x5, x6, x7].drop k
  | 0, _ => ⟨rfl, rfl⟩
  | 1, _ => ⟨rfl, rfl⟩
  | 2, _ => ⟨rfl, rfl⟩
  | 3, _ => ⟨rfl, rfl⟩
  | 4, _ => ⟨rfl, rfl⟩
  | 5, _ => ⟨rfl, rfl⟩
  | 6, _ => ⟨rfl, rfl⟩
  | 7, _ => ⟨rfl, rfl⟩
  | 8, _ => ⟨rfl, rfl⟩
  | n + 9, h => absurd h (by omega)
def pr_l_oblong (T : Tx K mg) : Pr := fun ds B k e => ds = [penF] ∧ B ≤ 700000 ∧ ∀ ps B', Obl ps → Bd 110 (smK ps) → B' ≤ B + 60 → k (.lst (ps.map prD)) B'
theorem okD_l_oblong (T : Tx K mg) : FnOk P w K mg base (L2.CX P w) 6 T.a_l_oblong T.d_l_oblong P_l_oblong (spD K (pr_l_oblong T)) := by
  refine T.F_l_oblong.okX sc_l_oblong (spD_len fun ds B k e h => by obtain ⟨rfl, hB, hk⟩ := h; rfl) (fun cdv A outer s H vs Q E hr h => ?_)
  have G_l_draw : FnOk P w K mg base (L2.CX P w) 1 _ _ _ _ := okD_l_draw T
  have G_l_great : FnOk P w K mg base (L2.CX P w) 4 _ _ _ _ := okD_l_great T
  have G_l_pick : FnOk P w K mg base (L2.CX P w) 2 _ _ _ _ := okD_l_pick T
  obtain ⟨G, ds, B, k, e, hs, hR, ⟨rfl, hB, hk⟩, hK, hX⟩ := h
  refine ⟨_, (pss_cons (ps_par (i := 1) (j := 2) (by rfl) sc_l_oblong.nd rfl rfl (by decide) rfl rfl (pa_cons (pe_op op_add pe_int (pe_call G_l_great (hr.mono (by decide)) (by rfl) T.g_l_great T.F_l_great.kp T.b_l_great .nil passL (pa_cons (pv 0) pa_nil))) (pa_cons (pe_op op_add pe_int (pe_call G_l_great (hr.mono (by decide)) (by rfl) T.g_l_great T.F_l_great.kp T.b_l_great .nil passL (pa_cons (pv 0) pa_nil))) pa_nil)) (by rfl))
 (pss_cons (ps_set (i := 3) sc_l_oblong.nd rfl (.inr rfl) (pe_ifExp (pt_cmpR op_lt (pv 1) (pv 2) (nomark _)) (pv 1) (pv 2)))
 (pss_cons (ps_setLc (i := 4) (te := (tOp (rI (fun _ j => 0 < j) fun i j => V.int (i % j)) (tCB (fun xs H Q => (∃ i, xs = [.int i] ∧ Q (.int i) H) ∨ ∃ k, xs = [.bl k] ∧ Q (.int (if k then 1 else 0)) H) (tCons (tCall (spD K (pr_l_great T)) [] E0 (tCons (tVar 0) tNil)) tNil)) (tOp (rI0 fun i j => V.int (i + j)) (tOp (rI CDivW fun i j => V.int (i / j)) (tVar 3) (tC (.int 2))) (tC (.int 1))))) (own := [("_law_k", 9)]) (g := gName 9) (by rfl) sc_l_oblong.nd rfl rfl (sw_true rfl rfl rfl (by decide +kernel)) (pi_range1 (by rfl) T.n_range (pa_cons pe_int pa_nil)) (blkOk_by (own := [("_law_k", 9)]) (N := N_l_oblong) (sc := defScope s_l_oblong) (by decide +kernel)) (fun _ _ _ _ _ => pg_name (i := 9) sc_l_oblong.nd rfl (Or.inl rfl)) (fun _ _ _ _ _ => pts_nil) (fun _ _ _ _ _ => (pe_op op_mod (pe_callTy call_int1 (by rfl) T.n_int (by decide +kernel) (pa_cons (pe_call G_l_great (hr.mono (by decide)) (by rfl) T.g_l_great T.F_l_great.kp T.b_l_great .nil passL (pa_cons (pv 0) pa_nil)) pa_nil)) (pe_op op_add (pe_op op_fdivW (pv 3) pe_int) pe_int))))
 (pss_cons (ps_set (i := 5) sc_l_oblong.nd rfl (.inl rfl) (pe_lst (pa_cons (pe_tup (pa_cons pe_str (pa_cons (pe_op op_sub (pe_op op_sub (pv 1) (pe_ix ix_list (pv 4) pe_int (fun _ _ => rfl))) (pe_ix ix_list (pv 4) pe_int (fun _ _ => rfl))) pa_nil))) (pa_cons (pe_tup (pa_cons pe_str (pa_cons (pe_ix ix_list (pv 4) pe_int (fun _ _ => rfl)) pa_nil))) (pa_cons (pe_tup (pa_cons pe_str (pa_cons (pe_op op_sub (pe_op op_sub (pv 2) (pe_ix ix_list (pv 4) pe_int (fun _ _ => rfl))) (pe_ix ix_list (pv 4) pe_int (fun _ _ => rfl))) pa_nil))) (pa_cons (pe_tup (pa_cons pe_str (pa_cons (pe_ix ix_list (pv 4) pe_int (fun _ _ => rfl)) pa_nil))) pa_nil))))))
 (pss_cons (ps_set (i := 5) sc_l_oblong.nd rfl (.inl rfl) (pe_op op_cat (pv 5) (pe_lst (pa_cons (pe_tup (pa_cons pe_str (pa_cons (pe_op op_sub (pe_op op_sub (pv 1) (pe_ix ix_list (pv 4) pe_int (fun _ _ => rfl))) (pe_ix ix_list (pv 4) pe_int (fun _ _ => rfl))) pa_nil))) (pa_cons (pe_tup (pa_cons pe_str (pa_cons (pe_ix ix_list (pv 4) pe_int (fun _ _ => rfl)) pa_nil))) (pa_cons (pe_tup (pa_cons pe_str (pa_cons (pe_op op_sub (pe_op op_sub (pv 2) (pe_ix ix_list (pv 4) pe_int (fun _ _ => rfl))) (pe_ix ix_list (pv 4) pe_int (fun _ _ => rfl))) pa_nil))) (pa_cons (pe_tup (pa_cons pe_str (pa_cons (pe_ix ix_list (pv 4) pe_int (fun _ _ => rfl)) pa_nil))) pa_nil)))))))
 (pss_cons (ps_par3 (i := 6) (j := 7) (l := 8) (by rfl) sc_l_oblong.nd rfl rfl rfl (by decide) (by decide) (by decide) rfl rfl rfl (pa_cons (pe_call G_l_draw (hr.mono (by decide)) (by rfl) T.g_l_draw T.F_l_draw.kp T.b_l_draw .nil passL (pa_cons (pv 0) (pa_cons pe_int pa_nil))) (pa_cons (pe_call G_l_pick (hr.mono (by decide)) (by rfl) T.g_l_pick T.F_l_pick.kp T.b_l_pick .nil passL (pa_cons (pv 0) (pa_cons (pe_lst (pa_cons (pe_tup (pa_cons pe_str (pa_cons pe_str pa_nil))) (pa_cons (pe_tup (pa_cons pe_str (pa_cons pe_str pa_nil))) (pa_cons (pe_tup (pa_cons pe_str (pa_cons pe_str pa_nil))) pa_nil)))) pa_nil))) (pa_cons (pe_call G_l_great (hr.mono (by decide)) (by rfl) T.g_l_great T.F_l_great.kp T.b_l_great .nil passL (pa_cons (pv 0) pa_nil)) pa_nil))) (by rfl))
 (pss_one (ps_ret (pe_op op_cat (pe_op op_cat (pe_slice sl_list (pv 5) po_none (po_some (pv 6))) (pe_lst (pa_cons (pe_tup (pa_cons (pe_ix ix_tup (pv 7) pe_int (fun _ _ => rfl)) (pa_cons (pv 8) pa_nil))) (pa_cons (pe_tup (pa_cons (pe_ix ix_tup (pv 7) pe_int (fun _ _ => rfl)) (pa_cons (pv 8) pa_nil))) pa_nil)))) (pe_slice sl_list (pv 5) (po_some (pv 6)) po_none)))))))))), run_body (ρ := [some penF, none, none, none, none, none, none, none, none, none]) hs hR hK hX rfl ?_⟩
  have zz : 2 ≤ sizeLine := by decide
  have z3 : 3 ≤ sizeLine := by decide
  have z4 : 4 ≤ sizeLine := by decide
  have z8 : 4 + 4 ≤ sizeLine := by decide
  refine ws_cut (fun ρ' B2 => ∃ W H' : Int, ρ' = [some penF, some (.int W), some (.int H'), none, none, none, none, none, none, none] ∧ (2 ≤ W ∧ W < 2 ^ 100 + 2) ∧ (2 ≤ H' ∧ H' < 2 ^ 100 + 2) ∧ B2 ≤ B + 12) ?_ ?_
  · refine ws_par <| wa_cons <| we_op <| we_int <| we_call <| wa_cons <| we_var rfl <| wa_nil ⟨rfl, by omega, fun g1 B1 g10 bg1 hB1 => ro_i0 <| wa_cons <| we_op <| we_int <| we_call <| wa_cons <| we_var rfl <| wa_nil ⟨rfl, by omega, fun g2 B2 g20 bg2 hB2 => ro_i0 <| wa_nil ⟨_, _, rfl, _, _, rfl, ?_, ?_, by omega⟩⟩⟩
    · unfold Bd at bg1
      generalize hN : (2 : Nat) ^ 100 = N at bg1
      have : (2 : Int) ^ 100 = N := by rw [← hN]; decide +kernel
      omega
    · unfold Bd at bg2
      generalize hN : (2 : Nat) ^ 100 = N at bg2
      have : (2 : Int) ^ 100 = N := by rw [← hN]; decide +kernel
      omega
  rintro _ B2 ⟨W, H', rfl, hW, hH, hB2⟩
  refine ws_cut (fun ρ' B3 => ∃ L : Int, ρ' = [some penF, some (.int W), some (.int H'), some (.int L), none, none, none, none, none, none] ∧ 2 ≤ L ∧ L ≤ W ∧ L ≤ H' ∧ B3 = B2) ?_ ?_
  · exact ws_set <| we_ifE <| wt_test <| we_op <| we_var rfl <| we_var rfl <| ro_b0 ⟨_, rfl, fun c => we_var rfl ⟨W, rfl, hW.1, Int.le_refl _, Int.le_of_lt (of_decide_eq_true c), rfl⟩, fun c => we_var rfl ⟨H', rfl, hH.1, Int.not_lt.mp (of_decide_eq_false c), Int.le_refl _, rfl⟩⟩
  rintro _ B3 ⟨L, rfl, L2', LW, LH, rfl⟩
  refine ws_cut (fun ρ' B4 => ∃ a b c d : Int, ρ' = [some penF, some (.int W), some (.int H'), some (.int L), some (.lst [.int a, .int b, .int c, .int d]), none, none, none, none, none] ∧ (0 ≤ a ∧ 2 * a ≤ L) ∧ (0 ≤ b ∧ 2 * b ≤ L) ∧ (0 ≤ c ∧ 2 * c ≤ L) ∧ (0 ≤ d ∧ 2 * d ≤ L) ∧ B4 ≤ B3 + 24) ?_ ?_
  · refine ws_set <| we_lc_range1 (E1 := E0) <| wa_cons <| we_int <| wa_nil ⟨_, rfl, by decide, by decide, by decide, fun i out B' => (∃ xs : List Int, out = xs.map D.int ∧ xs.length = i ∧ ∀ x ∈ xs, 0 ≤ x ∧ 2 * x ≤ L) ∧ B' ≤ B3 + 6 * i, ⟨⟨[], rfl, rfl, fun x hx => by cases hx⟩, by omega⟩, fun i out B' hi hI => ?_, fun out B' _ hI => ?_⟩
    · obtain ⟨⟨xs, rfl, hl, hx⟩, hB'⟩ := hI
      have hi2 : (i : Int) < 4 := by omega
      refine wt_yes ⟨fun _ => we_op <| we_intof <| wa_cons <| we_call <| wa_cons <| we_var rfl <| wa_nil ⟨rfl, by omega, fun g B5 g0 bg hB5 => wa_nil ⟨_, rfl, we_op <| we_op <| we_var rfl <| we_int <| ro_i ⟨by decide, by decide⟩ <| we_int <| ro_i0 <| ro_i (show 0 < L / 2 + 1 by omega) ?_⟩⟩, fun h => nomatch h⟩
      have h1 := Int.emod_nonneg g (show L / 2 + 1 ≠ 0 by omega)
      have h2 := Int.emod_lt_of_pos g (show 0 < L / 2 + 1 by omega)
      refine ⟨⟨xs ++ [g % (L / 2 + 1)], by rw [List.map_append]; rfl, by rw [List.length_append, hl]; rfl, fun x hx' => ?_⟩, by push_cast; omega⟩
      rcases List.mem_append.mp hx' with h | h
      · exact hx x h
      · rw [List.mem_singleton] at h; subst h; omega
    · obtain ⟨⟨xs, rfl, hl, hx⟩, hB'⟩ := hI
      match xs, hl, hx with
      | [a, b, c, d], _, hx => exact ⟨a, b, c, d, rfl, hx a (by simp), hx b (by simp), hx c (by simp), hx d (by simp), by omega⟩
  rintro _ B4 ⟨a, b, c, d, rfl, ha, hb, hc, hd, hB4⟩
  refine ws_seq <| ws_set <| we_lst <| wa_cons <| we_tup <| wa_cons <| we_str <| wa_cons <| we_op <| we_op <| we_var rfl <| we_op <| we_var rfl <| we_int <| ro_ixL rfl <| ro_i0 <| we_op <| we_var rfl <| we_int <| ro_ixL rfl <| ro_i0 <| wa_nil ⟨zz, wa_cons <| we_tup <| wa_cons <| we_str <| wa_cons <| we_op <| we_var rfl <| we_int <| ro_ixL rfl <| wa_nil ⟨zz, wa_cons <| we_tup <| wa_cons <| we_str <| wa_cons <| we_op <| we_op <| we_var rfl <| we_op <| we_var rfl <| we_int <| ro_ixL rfl <| ro_i0 <| we_op <| we_var rfl <| we_int <| ro_ixL rfl <| ro_i0 <| wa_nil ⟨zz, wa_cons <| we_tup <| wa_cons <| we_str <| wa_cons <| we_op <| we_var rfl <| we_int <| ro_ixL rfl <| wa_nil ⟨zz, wa_nil ⟨z4, ?_⟩⟩⟩⟩⟩
  refine ws_seq <| ws_set <| we_op <| we_var rfl <| we_lst <| wa_cons <| we_tup <| wa_cons <| we_str <| wa_cons <| we_op <| we_op <| we_var rfl <| we_op <| we_var rfl <| we_int <| ro_ixL rfl <| ro_i0 <| we_op <| we_var rfl <| we_int <| ro_ixL rfl <| ro_i0 <| wa_nil ⟨zz, wa_cons <| we_tup <| wa_cons <| we_str <| wa_cons <| we_op <| we_var rfl <| we_int <| ro_ixL rfl <| wa_nil ⟨zz, wa_cons <| we_tup <| wa_cons <| we_str <| wa_cons <| we_op <| we_op <| we_var rfl <| we_op <| we_var rfl <| we_int <| ro_ixL rfl <| ro_i0 <| we_op <| we_var rfl <| we_int <| ro_ixL rfl <| ro_i0 <| wa_nil ⟨zz, wa_cons <| we_tup <| wa_cons <| we_str <| wa_cons <| we_op <| we_var rfl <| we_int <| ro_ixL rfl <| wa_nil ⟨zz, wa_nil ⟨z4, ro_catL z8 ?_⟩⟩⟩⟩⟩
  refine ws_cut (fun ρ' B5 => ∃ (k : Nat) (u v : Str) (t : Int), ρ' = [some penF, some (.int W), some (.int H'), some (.int L), some (.lst [.int a, .int b, .int c, .int d]), some (.lst ((obR W H' a b c d).map prD)), some (.int (k : Int)), some (.tup [.str u, .str v]), some (.int t), none] ∧ k ≤ 8 ∧ (u = "e" ∧ v = "w" ∨ u = "ne" ∧ v = "sw" ∨ u = "s" ∧ v = "n") ∧ 0 ≤ t ∧ Bd 100 t ∧ B5 ≤ B4 + 8) ?_ ?_
  · refine ws_par3 <| wa_cons <| we_call <| wa_cons <| we_var rfl <| wa_cons <| we_int <| wa_nil ⟨9, rfl, by decide, by decide, by omega, fun q q0 q1 => wa_cons <| we_call <| wa_cons <| we_var rfl <| wa_cons <| we_lst <| wa_cons <| we_tup <| wa_cons <| we_str <| wa_cons <| we_str <| wa_nil ⟨zz, wa_cons <| we_tup <| wa_cons <| we_str <| wa_cons <| we_str <| wa_nil ⟨zz, wa_cons <| we_tup <| wa_cons <| we_str <| wa_cons <| we_str <| wa_nil ⟨zz, wa_nil ⟨z3, wa_nil ⟨_, rfl, by show 0 < 3; decide, by show 3 ≤ 1000000; decide, by omega, fun x hx => wa_cons <| we_call <| wa_cons <| we_var rfl <| wa_nil ⟨rfl, by omega, fun t B5 t0 bt hB5 => wa_nil ⟨_, _, _, rfl, ?_⟩⟩⟩⟩⟩⟩⟩⟩
    have ek : D.int q = .int ((q.toNat : Nat) : Int) := congrArg D.int (by omega)
    simp only [List.mem_cons, List.not_mem_nil, or_false] at hx
    rcases hx with rfl | rfl | rfl
    · exact ⟨q.toNat, _, _, t, by rw [← ek]; rfl, by omega, .inl ⟨rfl, rfl⟩, t0, bt, by omega⟩
    · exact ⟨q.toNat, _, _, t, by rw [← ek]; rfl, by omega, .inr (.inl ⟨rfl, rfl⟩), t0, bt, by omega⟩
    · exact ⟨q.toNat, _, _, t, by rw [← ek]; rfl, by omega, .inr (.inr ⟨rfl, rfl⟩), t0, bt, by omega⟩
  rintro _ B5 ⟨k', u, v, t, rfl, k8, huv, t0, bt, hB5⟩
  obtain ⟨ho, hs'⟩ := ob_ok (k := k') (t := t) hW.1 hH.1 (a := a) (b := b) (c := c) (d := d) ⟨ha.1, by omega, by omega⟩ ⟨hb.1, by omega, by omega⟩ ⟨hc.1, by omega, by omega⟩ ⟨hd.1, by omega, by omega⟩ t0 huv
  have bs : Bd 110 (smK (obT W H' a b c d t k' u v)) := by
    rw [hs']
    unfold Bd at bt ⊢
    rw [show (2 : Nat) ^ 110 = 1024 * 2 ^ 100 by decide +kernel]
    generalize hN : (2 : Nat) ^ 100 = N at bt ⊢
    have : (2 : Int) ^ 100 = N := by rw [← hN]; decide +kernel
    omega
  have hk' := hk _ B5 ho bs (by omega)
  obtain ⟨e1, e2⟩ := cut8 (prD ("e", W - d - a)) (prD ("ne", a)) (prD ("n", H' - a - b)) (prD ("nw", b)) (prD ("w", W - b - c)) (prD ("sw", c)) (prD ("s", H' - c - d)) (prD ("se", d)) k' k8
  have l1 : ((obR W H' a b c d).map prD).length = 8 := rfl
  have e1 : cutD ((obR W H' a b c d).map prD) none (some (k' : Int)) = ((obR W H' a b c d).map prD).take k' := e1
  have e2 : cutD ((obR W H' a b c d).map prD) (some (k' : Int)) none = ((obR W H' a b c d).map prD).drop k' := e2
  have en : (obT W H' a b c d t k' u v).map prD = (((obR W H' a b c d).map prD).take k' ++ [prD (u, t), prD (v, t)]) ++ ((obR W H' a b c d).map prD).drop k' := by
    unfold obT
    rw [List.map_append, List.map_cons, List.map_cons, List.map_take, List.map_drop, List.append_assoc]
    rfl
  rw [en] at hk'
  have b1 : (((obR W H' a b c d).map prD).take k').length ≤ 8 := by rw [List.length_take, l1]; omega
  have b2 : (((obR W H' a b c d).map prD).drop k').length ≤ 8 := by rw [List.length_drop, l1]; omega
  have zL : 100 < sizeLine := by decide
  refine ws_ret <| we_op <| we_op <| we_slL <| we_var rfl ⟨_, rfl, wo_no <| wo_part <| we_var rfl ⟨_, rfl, we_lst <| wa_cons <| we_tup <| wa_cons <| we_op <| we_var rfl <| we_int <| ro_ixT rfl <| wa_cons <| we_var rfl <| wa_nil ⟨zz, wa_cons <| we_tup <| wa_cons <| we_op <| we_var rfl <| we_int <| ro_ixT rfl <| wa_cons <| we_var rfl <| wa_nil ⟨zz, wa_nil ⟨zz, ro_catL ?_ <| we_slL <| we_var rfl ⟨_, rfl, wo_part <| we_var rfl ⟨_, rfl, wo_no <| ro_catL ?_ ?_⟩⟩⟩⟩⟩⟩⟩
  · rw [e1]; show (((obR W H' a b c d).map prD).take k').length + 2 ≤ _; omega
  · rw [e1, e2, List.length_append]; show (((obR W H' a b c d).map prD).take k').length + 2 + _ ≤ _; omega
  · rw [e1, e2]; exact hk'
end
end AW

set_option linter.all false
set_option maxRecDepth 100000
set_option maxHeartbeats 8000000
namespace AW
open PySem PySem.Spec PyProof.Rows L2
variable [Tbs]
section
variable {P : Program} {w : World} {K : PySem.W.Frag} {mg : Str → Option Value} {base : Heap} [CDict K w "STRIDES" L_STRIDES]
theorem king_no {n s f : Int} (n0 : 0 ≤ n) (hf : Fk (abI s) f) (h : kgM n < abI s ∨ s % 2 ≠ n % 2) : n < f ∨ (n - f) % 2 = 1 := by
  have fp := hf.2.1
  have pa : abI s % 2 = s % 2 := by unfold abI; split <;> omega
  by_cases g : n % 2 = s % 2
  · have := hf.2.2.2 n n0 (by omega)
    omega
  · omega
theorem Bd.in0 {a b : Int} {k : Nat} (h : Bd k b) (h0 : 0 ≤ a) (h1 : a ≤ b) : Bd k a := by unfold Bd at *; omega
theorem Bd.of_ab {a b : Int} {k : Nat} (h : Bd k b) (h1 : abI a ≤ b) : Bd k a := by unfold Bd abI at *; split at h1 <;> omega
theorem kgM_bd {n : Int} {k : Nat} (h2 : 2 ≤ n) (h : Bd k n) : Bd (k + k) (kgM n) := by
  have h1 := kgM_nn h2
  refine (h.mul h).in0 h1.1 ?_
  have := sq_nn n
  unfold kgM
  split <;> omega
theorem low_ok {M g : Int} (h0 : 0 ≤ M) : 0 ≤ M - 2 * (g % (M / 2 + 1)) ∧ M - 2 * (g % (M / 2 + 1)) ≤ M := by
  have h1 := Int.emod_nonneg g (show M / 2 + 1 ≠ 0 by omega)
  have h2 := Int.emod_lt_of_pos g (show 0 < M / 2 + 1 by omega)
  omega
theorem drawn_ok {M L g : Int} (h0 : L ≤ M) : L ≤ L + 2 * (g % ((M - L) / 2 + 1)) ∧ L + 2 * (g % ((M - L) / 2 + 1)) ≤ M := by
  have h1 := Int.emod_nonneg g (show (M - L) / 2 + 1 ≠ 0 by omega)
  have h2 := Int.emod_lt_of_pos g (show 0 < (M - L) / 2 + 1 by omega)
  omega
def pr_law (T : Tx K mg) : Pr := fun ds B k e => ∃ ns : List Int, ds = [.scr ns] ∧ ns.length ≤ 63 ∧ B = 0 ∧ ∀ B', k (.bl true) B'
theorem okD_law (T : Tx K mg) : FnOk P w K mg base (L2.CX P w) 10 T.a_law T.d_law P_law (spD K (pr_law T)) := by
  refine T.F_law.okX sc_law (spD_len fun ds B k e h => by obtain ⟨ns, rfl, hl, rfl, hk⟩ := h; rfl) (fun cdv A outer s H vs Q E hr h => ?_)
  have G_KingWalk_init : FnOk P w K mg base (L2.CX P w) 5 _ _ _ _ := okD_KingWalk_init T
  have G_KingWalk_swept : FnOk P w K mg base (L2.CX P w) 2 _ _ _ _ := okD_KingWalk_swept T
  have G_king_least : FnOk P w K mg base (L2.CX P w) 5 _ _ _ _ := okD_king_least T
  have G_king_most : FnOk P w K mg base (L2.CX P w) 5 _ _ _ _ := okD_king_most T
  have G_king_round : FnOk P w K mg base (L2.CX P w) 7 _ _ _ _ := okD_king_round T
  have G_l_begin : FnOk P w K mg base (L2.CX P w) 1 _ _ _ _ := okD_l_begin T
  have G_l_great : FnOk P w K mg base (L2.CX P w) 4 _ _ _ _ := okD_l_great T
  have G_l_is_round : FnOk P w K mg base (L2.CX P w) 8 _ _ _ _ := okD_l_is_round T
  have G_l_oblong : FnOk P w K mg base (L2.CX P w) 6 _ _ _ _ := okD_l_oblong T
  have G_l_pick : FnOk P w K mg base (L2.CX P w) 2 _ _ _ _ := okD_l_pick T
  have G_l_swept_by : FnOk P w K mg base (L2.CX P w) 2 _ _ _ _ := okD_l_swept_by T
  obtain ⟨G, ds, B, k, e, hs, hR, ⟨ns, rfl, hl, rfl, hk⟩, hK, hX⟩ := h
  refine ⟨_, (pss_cons (ps_set (i := 1) sc_law.nd rfl (.inl rfl) (pe_call G_l_begin (hr.mono (by decide)) (by rfl) T.g_l_begin T.F_l_begin.kp T.b_l_begin .nil passL (pa_cons (pv 0) pa_nil)))
 (pss_cons (ps_for (passes_of rfl) rfl (pi_range1 (by rfl) T.n_range (pa_cons (pe_op op_add pe_int (pe_callB (call_min2 rfl) (by rfl) T.n_min (by decide +kernel) (pa_cons pe_int (pa_cons (pe_callB call_len_seq (by rfl) T.n_len (by decide +kernel) (pa_cons (pv 0) pa_nil)) pa_nil)))) pa_nil)) (pg_name (i := 2) sc_law.nd rfl (.inl rfl))
 (pss_cons (ps_set (i := 3) sc_law.nd rfl (.inl rfl) (pe_op op_add pe_int (pe_call G_l_great (hr.mono (by decide)) (by rfl) T.g_l_great T.F_l_great.kp T.b_l_great .nil passL (pa_cons (pv 1) pa_nil))))
 (pss_cons (ps_set (i := 4) sc_law.nd rfl (.inl rfl) (pe_call G_king_most (hr.mono (by decide)) (by rfl) T.g_king_most T.F_king_most.kp T.b_king_most .nil passL (pa_cons (pv 3) pa_nil)))
 (pss_cons (ps_set (i := 5) sc_law.nd rfl (.inl rfl) (pe_ifExp (pt_cmpR op_gt (pv 3) pe_int (nomark _)) (pe_call G_king_most (hr.mono (by decide)) (by rfl) T.g_king_most T.F_king_most.kp T.b_king_most .nil passL (pa_cons (pe_op op_sub (pv 3) pe_int) pa_nil)) (pv 4)))
 (pss_cons (ps_set (i := 6) sc_law.nd rfl (.inl rfl) (pe_op op_add (pv 5) (pe_op op_mul pe_int (pe_op op_mod (pe_callTy call_int1 (by rfl) T.n_int (by decide +kernel) (pa_cons (pe_call G_l_great (hr.mono (by decide)) (by rfl) T.g_l_great T.F_l_great.kp T.b_l_great .nil passL (pa_cons (pv 1) pa_nil)) pa_nil)) (pe_op op_add (pe_op op_fdivW (pe_op op_sub (pv 4) (pv 5)) pe_int) pe_int)))))
 (pss_cons (ps_set (i := 7) sc_law.nd rfl (.inl rfl) (pe_op op_sub (pv 4) (pe_op op_mul pe_int (pe_op op_mod (pe_callTy call_int1 (by rfl) T.n_int (by decide +kernel) (pa_cons (pe_op op_mulW (pe_call G_l_great (hr.mono (by decide)) (by rfl) T.g_l_great T.F_l_great.kp T.b_l_great .nil passL (pa_cons (pv 1) pa_nil)) (pe_call G_l_great (hr.mono (by decide)) (by rfl) T.g_l_great T.F_l_great.kp T.b_l_great .nil passL (pa_cons (pv 1) pa_nil))) pa_nil)) (pe_op op_add (pe_op op_fdivW (pv 4) pe_int) pe_int)))))
 (pss_cons (ps_for (passes_of rfl) rfl (pi_list (pe_lst (pa_cons (pv 4) (pa_cons (pe_ifExp (pt_cmpR op_gt (pv 4) pe_int (nomark _)) (pe_op op_sub (pv 4) pe_int) (pv 4)) (pa_cons (pv 6) (pa_cons (pv 7) (pa_cons (pe_un un_neg (pv 4)) (pa_cons (pe_un un_neg (pv 6)) (pa_cons (pe_un un_neg (pv 7)) (pa_cons (pv 5) pa_nil)))))))))) (pg_name (i := 8) sc_law.nd rfl (.inl rfl))
 (pss_one (ps_if (pt_not (pt_val (pe_call G_l_is_round (hr.mono (by decide)) (by rfl) T.g_l_is_round T.F_l_is_round.kp T.b_l_is_round .nil passL (pa_cons (pv 3) (pa_cons (pv 8) pa_nil)))))
 (pss_one (ps_ret pe_bl))
 pss_nil)))
 (pss_cons (ps_if (PW.pt (pw_or (pt_cmp (pc_notN (pe_call G_king_round (hr.mono (by decide)) (by rfl) T.g_king_round T.F_king_round.kp T.b_king_round .nil passL (pa_cons (pv 3) (pa_cons (pe_op op_add (pv 4) pe_int) pa_nil))))) (pw_or1 (pt_cmp (pc_notN (pe_call G_king_round (hr.mono (by decide)) (by rfl) T.g_king_round T.F_king_round.kp T.b_king_round .nil passL (pa_cons (pv 3) (pa_cons (pe_op op_add (pv 4) pe_int) pa_nil))))))))
 (pss_one (ps_ret pe_bl))
 pss_nil)
 (pss_cons (ps_if (PW.pt (pw_or (pt_cmp (pc_notN (pe_call G_king_round (hr.mono (by decide)) (by rfl) T.g_king_round T.F_king_round.kp T.b_king_round .nil passL (pa_cons (pv 3) (pa_cons (pe_op op_sub (pv 7) pe_int) pa_nil))))) (pw_or1 (pt_cmp (pc_notN (pe_call G_king_round (hr.mono (by decide)) (by rfl) T.g_king_round T.F_king_round.kp T.b_king_round .nil passL (pa_cons (pv 3) (pa_cons (pe_op op_sub (pe_un un_neg (pv 4)) pe_int) pa_nil))))))))
 (pss_one (ps_ret pe_bl))
 pss_nil)
 (pss_cons (ps_set (i := 8) sc_law.nd rfl (.inl rfl) (pe_op op_mulW (pe_call G_l_pick (hr.mono (by decide)) (by rfl) T.g_l_pick T.F_l_pick.kp T.b_l_pick .nil passL (pa_cons (pv 1) (pa_cons (pe_lst (pa_cons pe_int (pa_cons (pe_un un_neg pe_int) pa_nil))) pa_nil))) (pe_op op_add pe_int (pe_op op_mulW (pe_call G_l_great (hr.mono (by decide)) (by rfl) T.g_l_great T.F_l_great.kp T.b_l_great .nil passL (pa_cons (pv 1) pa_nil)) (pe_call G_l_great (hr.mono (by decide)) (by rfl) T.g_l_great T.F_l_great.kp T.b_l_great .nil passL (pa_cons (pv 1) pa_nil))))))
 (pss_cons (ps_set (i := 9) sc_law.nd rfl (.inl rfl) (pe_call G_king_least (hr.mono (by decide)) (by rfl) T.g_king_least T.F_king_least.kp T.b_king_least .nil passL (pa_cons (pv 8) pa_nil)))
 (pss_cons (ps_if (PW.pt (pw_or (pt_cmpR op_lt (pe_call G_king_most (hr.mono (by decide)) (by rfl) T.g_king_most T.F_king_most.kp T.b_king_most .nil passL (pa_cons (pv 9) pa_nil)) (pe_callB call_abs (by rfl) T.n_abs (by decide +kernel) (pa_cons (pv 8) pa_nil)) (nomark _)) (pw_or (pt_cmpR op_ne (pe_op op_mod (pe_callTy call_int1 (by rfl) T.n_int (by decide +kernel) (pa_cons (pe_op op_sub (pv 9) (pv 8)) pa_nil)) pe_int) pe_int (nomark _)) (pw_or1 (pt_cmpR op_ne (pe_call G_king_least (hr.mono (by decide)) (by rfl) T.g_king_least T.F_king_least.kp T.b_king_least .nil passL (pa_cons (pe_un un_neg (pv 8)) pa_nil)) (pv 9) (nomark _))))))
 (pss_one (ps_ret pe_bl))
 pss_nil)
 (pss_cons (ps_if (PW.pt (pw_or (PW.pt (pw_and (pt_cmpR op_gt (pv 9) pe_int (nomark _)) (pw_and1 (pt_cmpR op_ge (pe_call G_king_most (hr.mono (by decide)) (by rfl) T.g_king_most T.F_king_most.kp T.b_king_most .nil passL (pa_cons (pe_op op_sub (pv 9) pe_int) pa_nil)) (pe_callB call_abs (by rfl) T.n_abs (by decide +kernel) (pa_cons (pv 8) pa_nil)) (nomark _))))) (pw_or1 (pt_not (pt_val (pe_call G_l_is_round (hr.mono (by decide)) (by rfl) T.g_l_is_round T.F_l_is_round.kp T.b_l_is_round .nil passL (pa_cons (pv 9) (pa_cons (pv 8) pa_nil))))))))
 (pss_one (ps_ret pe_bl))
 pss_nil)
 (pss_cons (ps_set (i := 10) sc_law.nd rfl (.inl rfl) (pe_call G_l_oblong (hr.mono (by decide)) (by rfl) T.g_l_oblong T.F_l_oblong.kp T.b_l_oblong .nil passL (pa_cons (pv 1) pa_nil)))
 (pss_cons (ps_par (i := 11) (j := 12) (by rfl) sc_law.nd rfl rfl (by decide) rfl rfl (pa_cons (pe_callB (cr_sum rfl) (by rfl) T.n_sum (by decide +kernel) (pa_cons (pe_lc (own := [("_law_way", 13), ("_law_times", 14)]) (g := gTup K 2 (gCons (gName 13) (gCons (gName 14) gNil))) (by rfl) sc_law.nd (pi_list (pv 10)) (blkOk_by (own := [("_law_way", 13), ("_law_times", 14)]) (N := N_law) (sc := defScope s_law) (by decide +kernel)) (fun _ _ _ _ _ => pg_tup rfl (pgs_cons (pg_name (i := 13) sc_law.nd rfl (Or.inl rfl)) (pgs_cons (pg_name (i := 14) sc_law.nd rfl (Or.inl rfl)) pgs_nil))) (fun _ _ _ _ _ => pts_nil) (fun _ _ _ _ _ => (pv 14))) pa_nil)) (pa_cons (pe_call G_l_swept_by (hr.mono (by decide)) (by rfl) T.g_l_swept_by T.F_l_swept_by.kp T.b_l_swept_by .nil passL (pa_cons (pv 10) pa_nil)) pa_nil)) (by rfl))
 (pss_one (ps_if (PW.pt (pw_or (pt_cmpR (op_neD hr.units) (pe_slice sl_tup (pv 12) po_none (po_some pe_int)) (pe_tup (pa_cons pe_int (pa_cons pe_int pa_nil))) (nomark _)) (pw_or (pt_cmpR op_gt (pe_callB call_abs (by rfl) T.n_abs (by decide +kernel) (pa_cons (pe_ix ix_tup (pv 12) pe_int (fun _ _ => rfl)) pa_nil)) (pe_call G_king_most (hr.mono (by decide)) (by rfl) T.g_king_most T.F_king_most.kp T.b_king_most .nil passL (pa_cons (pv 11) pa_nil)) (nomark _)) (pw_or1 (pt_cmpR op_ne (pe_meth0 (pe_make T.M_KingWalk G_KingWalk_init (hr.mono (by decide)) (by rfl) T.g_C_KingWalk T.b_KingWalk_init .nil passL (pa_cons (pv 10) pa_nil)) T.cl_KingWalk T.M_KingWalk_swept G_KingWalk_swept (hr.mono (by decide)) T.b_KingWalk_swept .nil passL) (pe_ix ix_tup (pv 12) pe_int (fun _ _ => rfl)) (nomark _))))))
 (pss_one (ps_ret pe_bl))
 pss_nil)))))))))))))))))
 (pss_one (ps_ret pe_bl)))), run_body (ρ := [some (.scr ns), none, none, none, none, none, none, none, none, none, none, none, none, none, none]) hs hR hK hX rfl ?_⟩
  have z2 : 2 ≤ sizeLine := by decide
  have z8 : 8 ≤ sizeLine := by decide
  have zL : 100 < sizeLine := by decide
  refine ws_seq <| ws_set <| we_call <| wa_cons <| we_var rfl <| wa_nil ⟨ns, rfl, hl, Int.le_refl _, ?_⟩
  refine ws_cut (fun ρ' B' => ∃ o2 o3 o4 o5 o6 o7 o8 o9 o10 o11 o12 o13 o14, ρ' = [some (.scr ns), some penF, o2, o3, o4, o5, o6, o7, o8, o9, o10, o11, o12, o13, o14]) ?_ ?_
  · refine ws_for_range1 <| wa_cons <| we_op <| we_int <| we_min2 <| wa_cons <| we_int <| wa_cons <| we_lenS <| wa_cons <| we_var rfl <| wa_nil ⟨_, rfl, wa_nil ⟨_, _, rfl, ro_i0 <| wa_nil ⟨_, rfl, by split <;> omega, by split <;> omega, fun i ρ' B' => (∃ o2 o3 o4 o5 o6 o7 o8 o9 o10 o11 o12 o13 o14, ρ' = [some (.scr ns), some penF, o2, o3, o4, o5, o6, o7, o8, o9, o10, o11, o12, o13, o14]) ∧ B' ≤ 200 * i, ⟨⟨_, _, _, _, _, _, _, _, _, _, _, _, _, rfl⟩, by omega⟩, fun i ρ' B' hi hI => ?_, fun ρ' B' hI => hI.1⟩⟩⟩
    obtain ⟨⟨o2, o3, o4, o5, o6, o7, o8, o9, o10, o11, o12, o13, o14, rfl⟩, hB'⟩ := hI
    have hi9 : i ≤ 9 := by
      have : i < (4 + if (ns.length : Int) < 4 then (ns.length : Int) else 4).toNat := hi
      split at this <;> omega
    refine wg_name ?_
    obtain ⟨o2, eo2⟩ : ∃ o : Option D, o = some (.int (0 + i)) := ⟨_, rfl⟩
    rw [← eo2]
    clear eo2
    refine ws_cut (fun ρ' B2 => ∃ n : Int, ρ' = [some (.scr ns), some penF, o2, some (.int n), o4, o5, o6, o7, o8, o9, o10, o11, o12, o13, o14] ∧ 2 ≤ n ∧ Bd 102 n ∧ B2 ≤ 200 * i + 6) ?_ ?_
    · exact ws_set <| we_op <| we_int <| we_call <| wa_cons <| we_var rfl <| wa_nil ⟨rfl, by omega, fun g B2 g0 bg hB2 => ro_i0 ⟨_, rfl, by omega, (Bd.add (Bd.mono (k := 2) (m := 100) (by show (2 : Int).natAbs < 2 ^ 2; decide) (by decide)) bg).mono (by decide), by omega⟩⟩
    rintro _ B2 ⟨n, rfl, n2, bn, hB2⟩
    have bn' : Bd 3000 n := bn.mono (by decide)
    obtain ⟨M0, Mp⟩ := kgM_nn n2
    have bM := kgM_bd n2 bn
    generalize hM : kgM n = M at M0 Mp bM
    have bM' : Bd 3000 M := bM.mono (by decide)
    have bq : ∀ z : Int, (-M - 2 ≤ z ∧ z ≤ M + 2) → Bd 3000 z := fun z hz => by
      refine Bd.mono (k := 300) ?_ (by decide)
      have : Bd 206 (M + 2) := (Bd.add bM (Bd.mono (k := 2) (by show (2 : Int).natAbs < 2 ^ 2; decide) (by decide))).mono (by decide)
      refine Bd.mono (k := 206) ?_ (by decide)
      unfold Bd at this ⊢
      omega
    refine ws_seq <| ws_set <| we_call <| wa_cons <| we_var rfl <| wa_nil ⟨n, rfl, by omega, by omega, bn', ?_⟩
    rw [hM]
    refine ws_cut (fun ρ' B3 => ∃ L : Int, ρ' = [some (.scr ns), some penF, o2, some (.int n), some (.int M), some (.int L), o6, o7, o8, o9, o10, o11, o12, o13, o14] ∧ 0 ≤ L ∧ L ≤ M ∧ L % 2 = n % 2 ∧ B2 = B3) ?_ ?_
    · refine ws_set <| we_ifE <| wt_test <| we_op <| we_var rfl <| we_int <| ro_b0 ⟨_, rfl, fun c => ?_, fun c => we_var rfl ⟨M, rfl, M0, Int.le_refl _, Mp, rfl⟩⟩
      have c := of_decide_eq_true c
      obtain ⟨k1, k2, k3⟩ := kgM_le (n := n) (by omega)
      exact we_call <| wa_cons <| we_op <| we_var rfl <| we_int <| ro_i0 <| wa_nil ⟨n - 2, rfl, by omega, by omega, bn'.in0 (by omega) (by omega), ⟨_, rfl, k1, by rw [← hM]; exact k2, k3, rfl⟩⟩
    rintro _ _ ⟨L, rfl, L0, LM, Lp, rfl⟩
    refine ws_cut (fun ρ' B3 => ∃ d : Int, ρ' = [some (.scr ns), some penF, o2, some (.int n), some (.int M), some (.int L), some (.int d), o7, o8, o9, o10, o11, o12, o13, o14] ∧ 0 ≤ d ∧ d ≤ M ∧ d % 2 = n % 2 ∧ B3 ≤ 200 * i + 12) ?_ ?_
    · refine ws_set <| we_op <| we_var rfl <| we_op <| we_int <| we_op <| we_intof <| wa_cons <| we_call <| wa_cons <| we_var rfl <| wa_nil ⟨rfl, by omega, fun g B3 g0 bg hB3 => wa_nil ⟨_, rfl, we_op <| we_op <| we_op <| we_var rfl <| we_var rfl <| ro_i0 <| we_int <| ro_i ⟨by decide, by decide⟩ <| we_int <| ro_i0 <| ro_i (show 0 < (M - L) / 2 + 1 by omega) <| ro_i (.inl ⟨by decide +kernel, by decide +kernel⟩) <| ro_i0 ?_⟩⟩
      have h := drawn_ok (M := M) (L := L) (g := g) LM
      exact ⟨_, rfl, by omega, h.2, by omega, by omega⟩
    rintro _ B3 ⟨d, rfl, d0, dM, dp, hB3⟩
    refine ws_cut (fun ρ' B4 => ∃ z : Int, ρ' = [some (.scr ns), some penF, o2, some (.int n), some (.int M), some (.int L), some (.int d), some (.int z), o8, o9, o10, o11, o12, o13, o14] ∧ 0 ≤ z ∧ z ≤ M ∧ z % 2 = n % 2 ∧ B4 ≤ 200 * i + 24) ?_ ?_
    · refine ws_set <| we_op <| we_var rfl <| we_op <| we_int <| we_op <| we_intof <| wa_cons <| we_op <| we_call <| wa_cons <| we_var rfl <| wa_nil ⟨rfl, by omega, fun g B4 g0 bg hB4 => we_call <| wa_cons <| we_var rfl <| wa_nil ⟨rfl, by omega, fun g' B5 g0' bg' hB5 => ro_i (cmw (bg.mono (by decide)) (bg'.mono (by decide))) <| wa_nil ⟨_, rfl, we_op <| we_op <| we_var rfl <| we_int <| ro_i ⟨by decide, by decide⟩ <| we_int <| ro_i0 <| ro_i (show 0 < M / 2 + 1 by omega) <| ro_i (.inl ⟨by decide +kernel, by decide +kernel⟩) <| ro_i0 ?_⟩⟩⟩
      have h := low_ok (M := M) (g := g * g') M0
      exact ⟨_, rfl, h.1, h.2, by omega, by omega⟩
    rintro _ B4 ⟨lo, rfl, lo0, loM, lop, hB4⟩
    refine ws_cut (fun ρ' B5 => ∃ o8, ρ' = [some (.scr ns), some penF, o2, some (.int n), some (.int M), some (.int L), some (.int d), some (.int lo), o8, o9, o10, o11, o12, o13, o14] ∧ B4 = B5) ?_ ?_
    · refine ws_for_list <| we_lst <| wa_cons <| we_var rfl <| wa_cons <| We.imp (k := fun x B' => ∃ z : Int, x = .int z ∧ (0 ≤ z ∧ z ≤ M ∧ z % 2 = n % 2) ∧ B4 = B') (we_ifE <| wt_test <| we_op <| we_var rfl <| we_int <| ro_b0 ⟨_, rfl, fun c => we_op <| we_var rfl <| we_int <| ro_i0 ⟨_, rfl, ⟨by have := of_decide_eq_true c; omega, by omega, by omega⟩, rfl⟩, fun c => we_var rfl ⟨_, rfl, ⟨M0, Int.le_refl _, Mp⟩, rfl⟩⟩) fun x B' hx => ?_
      obtain ⟨q, rfl, ⟨q0, qM, qp⟩, rfl⟩ := hx
      refine wa_cons <| we_var rfl <| wa_cons <| we_var rfl <| wa_cons <| we_neg <| we_var rfl ⟨_, rfl, wa_cons <| we_neg <| we_var rfl ⟨_, rfl, wa_cons <| we_neg <| we_var rfl ⟨_, rfl, wa_cons <| we_var rfl <| wa_nil ⟨z8, _, rfl, fun j ρ' B' => ∃ o8, ρ' = [some (.scr ns), some penF, o2, some (.int n), some (.int M), some (.int L), some (.int d), some (.int lo), o8, o9, o10, o11, o12, o13, o14] ∧ B4 = B', ⟨_, rfl, rfl⟩, fun j x ρ' B' hj hI => ?_, fun ρ' B' hI => hI⟩⟩⟩⟩
      obtain ⟨o8, rfl, rfl⟩ := hI
      have hx : ∃ s : Int, x = .int s ∧ abI s ≤ M ∧ s % 2 = n % 2 := by
        have hm := List.mem_of_getElem? hj
        simp only [List.mem_cons, List.not_mem_nil, or_false] at hm
        rcases hm with rfl | rfl | rfl | rfl | rfl | rfl | rfl | rfl <;> refine ⟨_, rfl, ?_, by omega⟩ <;> unfold abI <;> split <;> omega
      obtain ⟨s, rfl, sM, sp⟩ := hx
      refine wg_name <| ws_if <| wt_not <| wt_val <| we_call <| wa_cons <| we_var rfl <| wa_cons <| we_var rfl <| wa_nil ⟨n, s, rfl, by omega, bn', bM'.of_ab sM, by rw [hM]; exact sM, sp, ⟨_, rfl, (fun h => nomatch h), fun _ => ws_next ⟨_, rfl, rfl⟩⟩⟩
    rintro _ _ ⟨o8, rfl, rfl⟩
    refine ws_cut (fun ρ' B5 => ρ' = [some (.scr ns), some penF, o2, some (.int n), some (.int M), some (.int L), some (.int d), some (.int lo), o8, o9, o10, o11, o12, o13, o14] ∧ B4 = B5) ?_ ?_
    · refine ws_if <| wt_or <| wt_val <| we_notN <| we_call <| wa_cons <| we_var rfl <| wa_cons <| we_op <| we_var rfl <| we_int <| ro_i0 <| wa_nil ⟨n, M + 2, rfl, by omega, bn', bq (M + 2) (by omega), fun f hf => ?_⟩
      have no := king_no (n := n) (s := M + 2) (by omega) hf (.inl (by rw [hM]; unfold abI; split <;> omega))
      refine ⟨fun _ => ⟨_, rfl, (fun h => nomatch h), fun _ => ?_⟩, fun h1 h2 => by omega⟩
      refine wt_val <| we_notN <| we_call <| wa_cons <| we_var rfl <| wa_cons <| we_op <| we_var rfl <| we_int <| ro_i0 <| wa_nil ⟨n, M + 1, rfl, by omega, bn', bq (M + 1) (by omega), fun f hf => ?_⟩
      have no := king_no (n := n) (s := M + 1) (by omega) hf (.inr (by omega))
      exact ⟨fun _ => ⟨_, rfl, (fun h => nomatch h), fun _ => ws_next ⟨rfl, rfl⟩⟩, fun h1 h2 => by omega⟩
    rintro _ _ ⟨rfl, rfl⟩
    refine ws_cut (fun ρ' B5 => ρ' = [some (.scr ns), some penF, o2, some (.int n), some (.int M), some (.int L), some (.int d), some (.int lo), o8, o9, o10, o11, o12, o13, o14] ∧ B4 = B5) ?_ ?_
    · refine ws_if <| wt_or <| wt_val <| we_notN <| we_call <| wa_cons <| we_var rfl <| wa_cons <| we_op <| we_var rfl <| we_int <| ro_i0 <| wa_nil ⟨n, lo - 1, rfl, by omega, bn', bq (lo - 1) (by omega), fun f hf => ?_⟩
      have no := king_no (n := n) (s := lo - 1) (by omega) hf (.inr (by omega))
      refine ⟨fun _ => ⟨_, rfl, (fun h => nomatch h), fun _ => ?_⟩, fun h1 h2 => by omega⟩
      refine wt_val <| we_notN <| we_call <| wa_cons <| we_var rfl <| wa_cons <| we_op <| we_neg <| we_var rfl ⟨_, rfl, we_int <| ro_i0 <| wa_nil ⟨n, -M - 2, rfl, by omega, bn', bq (-M - 2) (by omega), fun f hf => ?_⟩⟩
      have no := king_no (n := n) (s := -M - 2) (by omega) hf (.inl (by rw [hM]; unfold abI; split <;> omega))
      exact ⟨fun _ => ⟨_, rfl, (fun h => nomatch h), fun _ => ws_next ⟨rfl, rfl⟩⟩, fun h1 h2 => by omega⟩
    rintro _ _ ⟨rfl, rfl⟩
    refine ws_cut (fun ρ' B5 => ∃ s : Int, ρ' = [some (.scr ns), some penF, o2, some (.int n), some (.int M), some (.int L), some (.int d), some (.int lo), some (.int s), o9, o10, o11, o12, o13, o14] ∧ s ≠ 0 ∧ Bd 202 s ∧ B5 ≤ 200 * i + 37) ?_ ?_
    · refine ws_set <| we_op <| We.imp (k := fun x B' => ∃ z : Int, x = .int z ∧ (z = 1 ∨ z = -1) ∧ B4 + 1 = B') (we_call <| wa_cons <| we_var rfl <| wa_cons <| we_lst <| wa_cons <| we_int <| wa_cons <| we_neg <| we_int ⟨_, rfl, wa_nil ⟨z2, wa_nil ⟨_, rfl, by show 0 < 2; decide, by show 2 ≤ 1000000; decide, by omega, fun x hx => ?_⟩⟩⟩) fun x B' hx => ?_
      · simp only [List.mem_cons, List.not_mem_nil, or_false] at hx
        rcases hx with rfl | rfl
        · exact ⟨1, rfl, .inl rfl, rfl⟩
        · exact ⟨-1, rfl, .inr rfl, rfl⟩
      · obtain ⟨q, rfl, hq, rfl⟩ := hx
        refine we_op <| we_int <| we_op <| we_call <| wa_cons <| we_var rfl <| wa_nil ⟨rfl, by omega, fun g B5 g0 bg hB5 => we_call <| wa_cons <| we_var rfl <| wa_nil ⟨rfl, by omega, fun g' B6 g0' bg' hB6 => ro_i (cmw (bg.mono (by decide)) (bg'.mono (by decide))) <| ro_i0 <| ?_⟩⟩
        have gg := Int.mul_nonneg g0 g0'
        have b1 : Bd 201 (1 + g * g') := (Bd.add (Bd.mono (k := 1) (m := 200) (by show (1 : Int).natAbs < 2 ^ 1; decide) (by decide)) (bg.mul bg')).mono (by decide)
        have bq' : Bd 8000 q := by
          refine Bd.mono (k := 1) ?_ (by decide)
          rcases hq with rfl | rfl <;> (show _ < 2 ^ 1; decide)
        refine ro_i (cmw bq' (b1.mono (by decide))) ⟨_, rfl, ?_, ?_, by omega⟩
        · rcases hq with rfl | rfl
          · rw [Int.one_mul]; omega
          · rw [Int.neg_mul, Int.one_mul]; omega
        · rcases hq with rfl | rfl
          · rw [Int.one_mul]; exact b1.mono (by decide)
          · rw [Int.neg_mul, Int.one_mul]; exact b1.neg.mono (by decide)
    rintro _ B5 ⟨s, rfl, s0, bs, hB5⟩
    have bs' : Bd 3000 s := bs.mono (by decide)
    refine ws_cut (fun ρ' B6 => ∃ f : Int, ρ' = [some (.scr ns), some penF, o2, some (.int n), some (.int M), some (.int L), some (.int d), some (.int lo), some (.int s), some (.int f), o10, o11, o12, o13, o14] ∧ Fk (abI s) f ∧ B5 = B6) ?_ ?_
    · exact ws_set <| we_call <| wa_cons <| we_var rfl <| wa_nil ⟨s, rfl, bs', fun f hf => ⟨f, rfl, hf, rfl⟩⟩
    rintro _ _ ⟨f, rfl, hf, rfl⟩
    have a1 : 1 ≤ abI s := by unfold abI; split <;> omega
    have fm := (hf.2.2.2 f hf.1 hf.2.1).mp (Int.le_refl _)
    have f2 : 2 ≤ f := by
      have h0 := hf.1
      have z0 : kgM 0 = 0 := by decide
      have z1 : kgM 1 = -1 := by decide
      by_cases c0 : f = 0
      · subst c0; omega
      · by_cases c1 : f = 1
        · subst c1; omega
        · omega
    have pa : abI s % 2 = s % 2 := by unfold abI; split <;> omega
    have fpar : s % 2 = f % 2 := by have := hf.2.1; omega
    have bf : Bd 3000 f := by
      have h4 := hf.2.2.1
      have ba := abI_bd bs
      refine Bd.mono (k := 206) ?_ (by decide)
      unfold Bd at ba ⊢
      rw [show (2 : Nat) ^ 206 = 16 * 2 ^ 202 by decide +kernel]
      have : (2 : Nat) ^ 202 ≥ 4 := by decide +kernel
      generalize (2 : Nat) ^ 202 = N at ba this ⊢
      omega
    refine ws_cut (fun ρ' B6 => ρ' = [some (.scr ns), some penF, o2, some (.int n), some (.int M), some (.int L), some (.int d), some (.int lo), some (.int s), some (.int f), o10, o11, o12, o13, o14] ∧ B5 = B6) ?_ ?_
    · refine ws_if <| wt_or <| wt_test <| we_op <| we_call <| wa_cons <| we_var rfl <| wa_nil ⟨f, rfl, by omega, by omega, bf, we_abs <| wa_cons <| we_var rfl <| wa_nil ⟨_, rfl, ro_b0 ⟨_, rfl, fun c => absurd (of_decide_eq_true c) (by show ¬ kgM f < abI s; omega), fun _ => ?_⟩⟩⟩
      refine wt_or <| wt_test <| we_op <| we_op <| we_intof <| wa_cons <| we_op <| we_var rfl <| we_var rfl <| ro_i0 <| wa_nil ⟨_, rfl, we_int <| ro_i (by decide : (0:Int) < 2) <| we_int <| ro_neI ⟨_, rfl, fun c => absurd (show (f - s) % 2 = 0 by omega) (ne_of_dec c), fun _ => ?_⟩⟩
      refine wt_test <| we_op <| we_call <| wa_cons <| we_neg <| we_var rfl ⟨_, rfl, wa_nil ⟨-s, rfl, bs'.neg, fun f' hf' => we_var rfl <| ro_neI ⟨_, rfl, fun c => ?_, fun _ => ws_next ⟨rfl, rfl⟩⟩⟩⟩
      have : abI (-s) = abI s := by unfold abI; split <;> split <;> omega
      rw [this] at hf'
      exact absurd (hf'.uniq hf) (ne_of_dec c)
    rintro _ _ ⟨rfl, rfl⟩
    refine ws_cut (fun ρ' B6 => ρ' = [some (.scr ns), some penF, o2, some (.int n), some (.int M), some (.int L), some (.int d), some (.int lo), some (.int s), some (.int f), o10, o11, o12, o13, o14] ∧ B5 = B6) ?_ ?_
    · refine ws_if <| wt_or <| wt_and <| wt_test <| we_op <| we_var rfl <| we_int <| ro_b0 ⟨_, rfl, fun c => ?_, fun _ => ⟨(fun h => nomatch h), fun _ => ?_⟩⟩
      · have c := of_decide_eq_true c
        have no := hf.2.2.2 (f - 2) (by omega) (by omega)
        refine wt_test <| we_op <| we_call <| wa_cons <| we_op <| we_var rfl <| we_int <| ro_i0 <| wa_nil ⟨f - 2, rfl, by omega, by omega, bf.in0 (by omega) (by omega), we_abs <| wa_cons <| we_var rfl <| wa_nil ⟨_, rfl, ro_b0 ⟨_, rfl, fun c => absurd (of_decide_eq_true c) (by show ¬ kgM (f - 2) ≥ abI s; omega), fun _ => ?_⟩⟩⟩
        exact wt_not <| wt_val <| we_call <| wa_cons <| we_var rfl <| wa_cons <| we_var rfl <| wa_nil ⟨f, s, rfl, by omega, bf, bs', fm, fpar, ⟨_, rfl, (fun h => nomatch h), fun _ => ws_next ⟨rfl, rfl⟩⟩⟩
      · exact wt_not <| wt_val <| we_call <| wa_cons <| we_var rfl <| wa_cons <| we_var rfl <| wa_nil ⟨f, s, rfl, by omega, bf, bs', fm, fpar, ⟨_, rfl, (fun h => nomatch h), fun _ => ws_next ⟨rfl, rfl⟩⟩⟩
    rintro _ _ ⟨rfl, rfl⟩
    refine ws_cut (fun ρ' B6 => ∃ ps : List Rn, ρ' = [some (.scr ns), some penF, o2, some (.int n), some (.int M), some (.int L), some (.int d), some (.int lo), some (.int s), some (.int f), some (.lst (ps.map prD)), o11, o12, o13, o14] ∧ Obl ps ∧ Bd 110 (smK ps) ∧ B6 ≤ 200 * i + 97) ?_ ?_
    · exact ws_set <| we_call <| wa_cons <| we_var rfl <| wa_nil ⟨rfl, by omega, fun ps B6 ho bo hB6 => ⟨ps, rfl, ho, bo, by omega⟩⟩
    rintro _ B6 ⟨ps, rfl, ⟨hg, hl', A, hA, A0, AM, sm4⟩, bo, hB6⟩
    have emap : ps.map prD = (ps.map fun q => (D.str q.1, D.int q.2)).map fun z => .tup [z.1, z.2] := by rw [List.map_map]; rfl
    refine ws_cut (fun ρ' B7 => ρ' = [some (.scr ns), some penF, o2, some (.int n), some (.int M), some (.int L), some (.int d), some (.int lo), some (.int s), some (.int f), some (.lst (ps.map prD)), some (.int (smK ps)), some (t3D (0, 0, A)), o13, o14] ∧ B6 = B7) ?_ ?_
    · refine ws_par <| wa_cons <| we_sum <| wa_cons <| we_lc_pairL (E1 := E0) (by decide) <| we_var rfl ⟨ps.map (fun q => (D.str q.1, D.int q.2)), by rw [← emap], by rw [List.length_map]; omega, fun _ d => d, fun i x y hi k' hk' => we_var rfl hk', wa_nil ⟨ps.map (·.2), ?_, wa_cons <| we_call <| wa_cons <| we_var rfl <| wa_nil ⟨false, ps, rfl, hg, bdK_of hg (bo.mono (by decide)), wa_nil ⟨_, _, rfl, ?_⟩⟩⟩⟩
      · rw [List.map_map, List.map_map]; rfl
      · rw [hA]; exact ⟨rfl, rfl⟩
    rintro _ _ ⟨rfl, rfl⟩
    refine ws_if <| wt_or <| wt_test <| we_op <| we_slT <| we_var rfl ⟨_, rfl, wo_no <| wo_part <| we_int ⟨_, rfl, by show ¬ (HT.sIx 3 0 none = 0 ∧ HT.sIx 3 3 (some 2) = 3); decide, we_tup <| wa_cons <| we_int <| wa_cons <| we_int <| wa_nil ⟨z2, ?_⟩⟩⟩
    show Ro _ _ _ _ (.tup [.int 0, .int 0]) (.tup [.int 0, .int 0]) _ _
    refine ro_neD rfl rfl rfl rfl ?_
    rw [eqv_self]
    refine ⟨_, rfl, (fun h => nomatch h), fun _ => ?_⟩
    refine wt_or <| wt_test <| we_op <| we_abs <| wa_cons <| we_op <| we_var rfl <| we_int <| ro_ixT rfl <| wa_nil ⟨_, rfl, we_call <| wa_cons <| we_var rfl <| wa_nil ⟨smK ps, rfl, by omega, by omega, bo.mono (by decide), ro_b0 ⟨_, rfl, fun c => ?_, fun _ => ?_⟩⟩⟩
    · have c := of_decide_eq_true c
      have : abI A = A := by unfold abI; split <;> omega
      have c : abI A > kgM (smK ps) := c
      omega
    obtain ⟨j1, j2, j3, j4⟩ := joinF_k hg
    refine wt_test <| we_op <| we_meth0 <| we_make <| wa_cons <| we_var rfl <| wa_nil ⟨ps, rfl, hg, by omega, ⟨_, _, rfl, by decide +kernel, joinF ps, rfl, j3, bdK_of j3 (by rw [j2]; exact bo.mono (by decide)), we_op <| we_var rfl <| we_int <| ro_ixT rfl <| ro_neI ⟨_, rfl, fun c => ?_, fun _ => ws_next ⟨⟨_, _, _, _, _, _, _, _, _, _, _, _, _, rfl⟩, by push_cast; omega⟩⟩⟩⟩
    exact absurd (show (kP (joinF ps)).2.2 = A by rw [j1, hA]) (ne_of_dec c)
  rintro _ _ ⟨o2, o3, o4, o5, o6, o7, o8, o9, o10, o11, o12, o13, o14, rfl⟩
  exact ws_ret <| we_bl (hk _)
end
end AW

namespace AW
open PySem PySem.Spec PyProof.Rows L2
/-- the law, called as the statement calls it -/
theorem law_at {l : PySem.W.OpenLaw} {w : World} {K : PySem.W.Frag} [CDict K w "STRIDES" L_STRIDES] {mg : Str → Option Value} {fa : Addr} {h : Heap} (T : Tx K mg) (ea : T.a_law = fa) :
    LamX.LawAtS l w K (L2.CX l.prog w) 10 63 "_law_script" mg fa h := by
  subst ea
  letI : Tbs := ⟨[]⟩
  refine ⟨T.d_law, [], spLaw K, (fun p hp => by cases hp), (fun p hp => by cases hp), (fun p hp => by cases hp), fun s u => ?_, fun H a ns hl _ hH hS => ?_, fun base KB hm hb => ?_⟩
  · obtain ⟨oc, od, kV, doc, pm, an, cdv, ct, osl, e, lk, hcd⟩ := T.F_law.ex
    rw [e]
    exact BindsTo.of_eq rfl
  · exact ⟨a, ns, rfl, hS, hl, fun q hq => (by cases hq), fun H' => rfl⟩
  · exact ((okD_law T).mono (by decide)).imp (spLaw_imp fun ns k hl hk => ⟨ns, rfl, hl, rfl, hk⟩)
end AW
open PySem PySem.W PyProof.Rows in
set_option maxRecDepth 100000 in
set_option maxHeartbeats 0 in
theorem PySem.Challenge.cw_areawalks_k59_whole_long_rounds_holds : PySem.Challenge.rw_areawalks_k59_whole_long_rounds.Holds := by
  w_on; o_law; k_head; (case hw => w_witness2)
  k_fill
  refine LamX.walk_ofTs (l := PySem.Challenge.rw_areawalks_k59_whole_long_rounds) (n := 63) (k := 10) (x := "_law_script") (CX := fun w => L2.CX (PySem.Challenge.rw_areawalks_k59_whole_long_rounds).prog w) rfl (by decide) rfl ⟨rfl, by decide, by decide⟩ (fun w h Y => PySem.W.kIn_of Y) ?F ?G
  case G =>
    intro w H s e s' h
    obtain ⟨_, _, _, _, _, _, _, _, _, _, _, _, z⟩ := h
    exact z.elim
  case F =>
    intro w mg fa h Y KX G hmg
    refine' AW.tx_mk  KX G hmg ?g__wall ?l__wall ?c__wall ?k__wall ?g_is_integer ?l_is_integer ?c_is_integer ?k_is_integer ?g_check_integer ?l_check_integer ?c_check_integer ?k_check_integer ?g_check_from ?l_check_from ?c_check_from ?k_check_from ?g_check_whole ?l_check_whole ?c_check_whole ?k_check_whole ?g_joined_runs ?l_joined_runs ?c_joined_runs ?k_joined_runs ?g_king_most ?l_king_most ?c_king_most ?k_king_most ?g_king_least ?l_king_least ?c_king_least ?k_king_least ?g_king_round ?l_king_round ?c_king_round ?k_king_round ?g_king_figures ?l_king_figures ?c_king_figures ?k_king_figures ?g_most_swept ?l_most_swept ?c_most_swept ?k_most_swept ?g_fewest_king_steps ?l_fewest_king_steps ?c_fewest_king_steps ?k_fewest_king_steps ?g_even_round ?l_even_round ?c_even_round ?k_even_round ?g_odd_round ?l_odd_round ?c_odd_round ?k_odd_round ?g_l_begin ?l_l_begin ?c_l_begin ?k_l_begin ?g_l_draw ?l_l_draw ?c_l_draw ?k_l_draw ?g_l_pick ?l_l_pick ?c_l_pick ?k_l_pick ?g_l_number ?l_l_number ?c_l_number ?k_l_number ?g_l_great ?l_l_great ?c_l_great ?k_l_great ?g_l_ways ?l_l_ways ?c_l_ways ?k_l_ways ?g_l_swept_by ?l_l_swept_by ?c_l_swept_by ?k_l_swept_by ?g_l_is_round ?l_l_is_round ?c_l_is_round ?k_l_is_round ?g_l_oblong ?l_l_oblong ?c_l_oblong ?k_l_oblong ?g_law ?l_law ?c_law ?k_law ?g_C_WalkError ?sa_WalkError ?ex_WalkError ?ty_WalkError ?kc_WalkError ?ga_WalkError ?gg_WalkError ?hd_WalkError ?ic_WalkError ?x_WalkError ?g_C_BadNumber ?m_BadNumber_init ?i_BadNumber_init ?l_BadNumber_init ?c_BadNumber_init ?k_BadNumber_init ?sa_BadNumber ?ex_BadNumber ?ty_BadNumber ?kc_BadNumber ?ga_BadNumber ?gg_BadNumber ?hd_BadNumber ?ic_BadNumber ?x_BadNumber ?na_BadNumber_value ?g_C_BadWord ?m_BadWord_init ?i_BadWord_init ?l_BadWord_init ?c_BadWord_init ?k_BadWord_init ?sa_BadWord ?ex_BadWord ?ty_BadWord ?kc_BadWord ?ga_BadWord ?gg_BadWord ?hd_BadWord ?ic_BadWord ?x_BadWord ?na_BadWord_value ?g_C_KingWalk ?pg_KingWalk ?hd_KingWalk ?po_KingWalk ?sa_KingWalk ?ca_KingWalk ?cm_KingWalk ?na_KingWalk_runs ?m_KingWalk_init ?i_KingWalk_init ?l_KingWalk_init ?c_KingWalk_init ?k_KingWalk_init ?mk_KingWalk ?kc_KingWalk ?m_KingWalk_eq ?i_KingWalk_eq ?l_KingWalk_eq ?c_KingWalk_eq ?k_KingWalk_eq ?ne_KingWalk ?m_KingWalk_length ?pg_KingWalk_length ?pt_KingWalk_length ?pr_KingWalk_length ?l_KingWalk_length ?c_KingWalk_length ?k_KingWalk_length ?m_KingWalk_ends ?i_KingWalk_ends ?l_KingWalk_ends ?c_KingWalk_ends ?k_KingWalk_ends ?m_KingWalk_swept ?i_KingWalk_swept ?l_KingWalk_swept ?c_KingWalk_swept ?k_KingWalk_swept ?cn ?ct ?io_KingWalk_int ?io_KingWalk_bool ?is_NoneType_KingWalk ?sb_NoneType_KingWalk ?is_bool_KingWalk ?sb_bool_KingWalk ?is_int_KingWalk ?sb_int_KingWalk ?is_str_KingWalk ?sb_str_KingWalk ?is_list_KingWalk ?sb_list_KingWalk ?is_tuple_KingWalk ?sb_tuple_KingWalk ?is_dict_KingWalk ?sb_dict_KingWalk ?n_abs ?n_bool ?n_int ?n_isinstance ?n_len ?n_list ?n_min ?n_property ?n_range ?n_str ?n_sum ?n_tuple ?gc_STRIDES ?mi_isqrt ?kk
    (case g__wall => k_is)
    (case l__wall => k_is)
    (case c__wall => k_is)
    (case k__wall => k_is)
    (case g_is_integer => k_is)
    (case l_is_integer => k_is)
    (case c_is_integer => k_is)
    (case k_is_integer => k_is)
    (case g_check_integer => k_is)
    (case l_check_integer => k_is)
    (case c_check_integer => k_is)
    (case k_check_integer => k_is)
    (case g_check_from => k_is)
    (case l_check_from => k_is)
    (case c_check_from => k_is)
    (case k_check_from => k_is)
    (case g_check_whole => k_is)
    (case l_check_whole => k_is)
    (case c_check_whole => k_is)
    (case k_check_whole => k_is)
    (case g_joined_runs => k_is)
    (case l_joined_runs => k_is)
    (case c_joined_runs => k_is)
    (case k_joined_runs => k_is)
    (case g_king_most => k_is)
    (case l_king_most => k_is)
    (case c_king_most => k_is)
    (case k_king_most => k_is)
    (case g_king_least => k_is)
    (case l_king_least => k_is)
    (case c_king_least => k_is)
    (case k_king_least => k_is)
    (case g_king_round => k_is)
    (case l_king_round => k_is)
    (case c_king_round => k_is)
    (case k_king_round => k_is)
    (case g_king_figures => k_is)
    (case l_king_figures => k_is)
    (case c_king_figures => k_is)
    (case k_king_figures => k_is)
    (case g_most_swept => k_is)
    (case l_most_swept => k_is)
    (case c_most_swept => k_is)
    (case k_most_swept => k_is)
    (case g_fewest_king_steps => k_is)
    (case l_fewest_king_steps => k_is)
    (case c_fewest_king_steps => k_is)
    (case k_fewest_king_steps => k_is)
    (case g_even_round => k_is)
    (case l_even_round => k_is)
    (case c_even_round => k_is)
    (case k_even_round => k_is)
    (case g_odd_round => k_is)
    (case l_odd_round => k_is)
    (case c_odd_round => k_is)
    (case k_odd_round => k_is)
    (case g_l_begin => k_is)
    (case l_l_begin => k_is)
    (case c_l_begin => k_is)
    (case k_l_begin => k_is)
    (case g_l_draw => k_is)
    (case l_l_draw => k_is)
    (case c_l_draw => k_is)
    (case k_l_draw => k_is)
    (case g_l_pick => k_is)
    (case l_l_pick => k_is)
    (case c_l_pick => k_is)
    (case k_l_pick => k_is)
    (case g_l_number => k_is)
    (case l_l_number => k_is)
    (case c_l_number => k_is)
    (case k_l_number => k_is)
    (case g_l_great => k_is)
    (case l_l_great => k_is)
    (case c_l_great => k_is)
    (case k_l_great => k_is)
    (case g_l_ways => k_is)
    (case l_l_ways => k_is)
    (case c_l_ways => k_is)
    (case k_l_ways => k_is)
    (case g_l_swept_by => k_is)
    (case l_l_swept_by => k_is)
    (case c_l_swept_by => k_is)
    (case k_l_swept_by => k_is)
    (case g_l_is_round => k_is)
    (case l_l_is_round => k_is)
    (case c_l_is_round => k_is)
    (case k_l_is_round => k_is)
    (case g_l_oblong => k_is)
    (case l_l_oblong => k_is)
    (case c_l_oblong => k_is)
    (case k_l_oblong => k_is)
    (case g_law => k_is)
    (case l_law => k_is)
    (case c_law => k_is)
    (case k_law => k_is)
    (case g_C_WalkError => k_is)
    (case sa_WalkError => k_is)
    (case ex_WalkError => k_is)
    (case ty_WalkError => k_is)
    (case kc_WalkError => k_is)
    (case ga_WalkError => k_is)
    (case gg_WalkError => k_is)
    (case hd_WalkError => k_is)
    (case ic_WalkError => k_is)
    (case x_WalkError => k_is)
    (case g_C_BadNumber => k_is)
    (case m_BadNumber_init => k_is)
    (case i_BadNumber_init => k_is)
    (case l_BadNumber_init => k_is)
    (case c_BadNumber_init => k_is)
    (case k_BadNumber_init => k_is)
    (case sa_BadNumber => k_is)
    (case ex_BadNumber => k_is)
    (case ty_BadNumber => k_is)
    (case kc_BadNumber => k_is)
    (case ga_BadNumber => k_is)
    (case gg_BadNumber => k_is)
    (case hd_BadNumber => k_is)
    (case ic_BadNumber => k_is)
    (case x_BadNumber => k_is)
    (case na_BadNumber_value => k_is)
    (case g_C_BadWord => k_is)
    (case m_BadWord_init => k_is)
    (case i_BadWord_init => k_is)
    (case l_BadWord_init => k_is)
    (case c_BadWord_init => k_is)
    (case k_BadWord_init => k_is)
    (case sa_BadWord => k_is)
    (case ex_BadWord => k_is)
    (case ty_BadWord => k_is)
    (case kc_BadWord => k_is)
    (case ga_BadWord => k_is)
    (case gg_BadWord => k_is)
    (case hd_BadWord => k_is)
    (case ic_BadWord => k_is)
    (case x_BadWord => k_is)
    (case na_BadWord_value => k_is)
    (case g_C_KingWalk => k_is)
    (case pg_KingWalk => k_is)
    (case hd_KingWalk => k_is)
    (case po_KingWalk => k_is)
    (case sa_KingWalk => k_is)
    (case ca_KingWalk => k_is)
    (case cm_KingWalk => k_is)
    (case na_KingWalk_runs => k_is)
    (case m_KingWalk_init => k_is)
    (case i_KingWalk_init => k_is)
    (case l_KingWalk_init => k_is)
    (case c_KingWalk_init => k_is)
    (case k_KingWalk_init => k_is)
    (case mk_KingWalk => k_is)
    (case kc_KingWalk => k_is)
    (case m_KingWalk_eq => k_is)
    (case i_KingWalk_eq => k_is)
    (case l_KingWalk_eq => k_is)
    (case c_KingWalk_eq => k_is)
    (case k_KingWalk_eq => k_is)
    (case ne_KingWalk => k_is)
    (case m_KingWalk_length => k_is)
    (case pg_KingWalk_length => k_is)
    (case pt_KingWalk_length => k_is)
    (case pr_KingWalk_length => k_is)
    (case l_KingWalk_length => k_is)
    (case c_KingWalk_length => k_is)
    (case k_KingWalk_length => k_is)
    (case m_KingWalk_ends => k_is)
    (case i_KingWalk_ends => k_is)
    (case l_KingWalk_ends => k_is)
    (case c_KingWalk_ends => k_is)
    (case k_KingWalk_ends => k_is)
    (case m_KingWalk_swept => k_is)
    (case i_KingWalk_swept => k_is)
    (case l_KingWalk_swept => k_is)
    (case c_KingWalk_swept => k_is)
    (case k_KingWalk_swept => k_is)
    (case cn => k_is)
    (case ct => k_is)
    (case io_KingWalk_int => kit_is)
    (case io_KingWalk_bool => kit_is)
    (case is_NoneType_KingWalk => kit_is)
    (case sb_NoneType_KingWalk => k_is)
    (case is_bool_KingWalk => kit_is)
    (case sb_bool_KingWalk => k_is)
    (case is_int_KingWalk => kit_is)
    (case sb_int_KingWalk => k_is)
    (case is_str_KingWalk => kit_is)
    (case sb_str_KingWalk => k_is)
    (case is_list_KingWalk => kit_is)
    (case sb_list_KingWalk => k_is)
    (case is_tuple_KingWalk => kit_is)
    (case sb_tuple_KingWalk => k_is)
    (case is_dict_KingWalk => kit_is)
    (case sb_dict_KingWalk => k_is)
    (case n_abs => k_is)
    (case n_bool => k_is)
    (case n_int => k_is)
    (case n_isinstance => k_is)
    (case n_len => k_is)
    (case n_list => k_is)
    (case n_min => k_is)
    (case n_property => k_is)
    (case n_range => k_is)
    (case n_str => k_is)
    (case n_sum => k_is)
    (case n_tuple => k_is)
    (case gc_STRIDES => k_is)
    (case mi_isqrt => k_is)
    (case kk =>
      intro T ea
      refine' AW.cd_use_STRIDES (w := w) KX ?cdx ?cdy ?cdz ?cds ?cdl0 ?cdv0 ?cdl1 ?cdv1 ?cdl2 ?cdv2 ?cdl3 ?cdv3 ?cdl4 ?cdv4 ?cdl5 ?cdv5 ?cdl6 ?cdv6 ?cdl7 ?cdv7 ?cdf
      (case cdx => k_is)
      (case cdy => k_is)
      (case cdz => rfl)
      (case cds => rfl)
      (case cdl0 => k_is)
      (case cdv0 => rfl)
      (case cdl1 => k_is)
      (case cdv1 => rfl)
      (case cdl2 => k_is)
      (case cdv2 => rfl)
      (case cdl3 => k_is)
      (case cdv3 => rfl)
      (case cdl4 => k_is)
      (case cdv4 => rfl)
      (case cdl5 => k_is)
      (case cdv5 => rfl)
      (case cdl6 => k_is)
      (case cdv6 => rfl)
      (case cdl7 => k_is)
      (case cdv7 => rfl)
      case cdf => 
      intro cd_STRIDES
      haveI := cd_STRIDES
      exact AW.law_at T ea)
