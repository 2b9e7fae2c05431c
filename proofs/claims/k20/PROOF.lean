import PyProof.Rows.All
import Wide.All
import OpenK.AllK
import Wide.FinOn
import PyProof.InstEq
import HandS.ForMost
import HandS.IsInst
import HandS.OwnEq
import HandS.SlotsOwn
import HandS.NamedTupSort
import HandS.Exc
import HandS.TryMany
import HandS.ExcField
import HandS.WordsExc
import HandS.Lambda
import OpenK.KOwn
import HandS.Gcd
import HandS.ExcOwn
import HandS.Small
import PyProof.ExcBaseAll.ValueError
import KE.KCallOwn
import HandS.Deep
import KE.DatumOrd
import KE.LtData
import KE.KDictDisplayH
import HandS.Iter
import HandS.Conv
import HandS.SortInts
import HandS.More
import KE.KDictCopyH
import KE.GoesEnum
import HandS.Star
import HandS.TupMul
import HandS.Style
import HandS.ExcIs
import HandS.Sort
import KE.KExcIs
import KE.KDictWalk
import PyProof.NeKinds
import HandS.Zip
import KE.GoesZip
import KE.GoesMore
import HandS.SortKw
import HandS.ExcInit
import HandS.Wide
import HandS.Walk
import HandS.NoneIn
import HandS.CallLocal
import HandS.Text
import HandS.Property
import HandS.StrMore
import HandS.TupAny
import HandS.Replace
import KE.IntTextLaws
import KE.KMathG
import HandS.Flow
import HandS.TupLen
import HandS.WideBits
import KE.RegKIsAll
import KE.RegKTryMore
import KE.KNestM
import HandS.MakeKw
import HandS.Defaults
import KE.KEqSeq
import Flt.RightSqrt
import HandS.EndTab
import PySem.Challenge.RW_areawalks_k20_walks_counted
set_option Elab.async false
set_option linter.all false
set_option maxRecDepth 100000
set_option maxHeartbeats 4000000
namespace AWR
open PySem PySem.W PyProof.Rows Builtin
section
variable {prog : Program} {w : World} {A : Around} {E : Value → Shared → Prop} {s : Shared} {K : Frag} {x C f : Addr} {ox : Obj} {oD : Option Obj} {b tb : Value}
end
end AWR

set_option linter.all false
set_option maxRecDepth 100000
set_option maxHeartbeats 4000000
namespace AWR
open PySem PySem.W PyProof.Rows Builtin
section
variable {prog : Program} {w : World} {A : Around} {E : Value → Shared → Prop} {s : Shared} {K : Frag} {x C f : Addr} {ox : Obj} {od : Option Obj} {b tb : Value}
end
end AWR

set_option linter.all false
set_option maxRecDepth 100000
set_option maxHeartbeats 4000000
namespace AW
open PySem PySem.Spec PyProof.Rows L2
section
variable {X : Cx} {CX : CXT} {k : Nat} {C f : Addr} {fd : FuncData} {ps : List Str} {sp : Sp} {E : XK}
/-- a def of the text runs, at some depth -/
theorem run_in {pins : List (Addr × Obj)} {σ : L2.St} {H : Hp} {s : Shared} {Q : VK} {us : List Value} {vs : List V} {A : Around} (F : FnOk X.prog X.w X.K X.mg X.base CX k f fd ps sp) (hr : Room k A) (fr : A.frames = X.A.frames) (hb : Binds X.K fd ps [])
    (hx : Passes CX X E) (iv : Inv X pins σ H s) (r : Vals vs us) (h : sp vs H Q E) : wpAny (model X.prog X.w) A (call (.ref f) us) (EP X pins σ Q) X.xe s := by
  have hl : (us ++ []).length = ps.length := by rw [List.append_nil, ← r.length]; exact F.len _ _ _ _ h
  have e0 : Env0 X.prog X.w X.K X.mg X.base A X.stack s H := by
    have e := iv.env0
    exact ⟨by rw [fr]; exact e.frames, e.mod, e.bs, e.bsz, e.funs, e.frf, e.hok, e.bare⟩
  refine wpAny_call (codeAny_mono (F.run A X.stack s H ⟨us, []⟩ us vs Q E hr e0 (by simpa using hb s us iv.kIn hl) r h) fun r s' kq => ?_)
  cases r with
  | error e => exact hx pins σ H s e s' iv kq
  | ok fl =>
    cases fl with
    | ret u => exact iv.after kq
    | next => exact False.elim kq
    | brk => exact False.elim kq
    | cont => exact False.elim kq
theorem rr (a : Addr) : L2.RelV (.ref a) (.ref a) := rfl
/-- ~a by a's own method -/
def rUnO (C : Addr) (sp : Sp) (E : XK) : V → Hp → VK → Prop := fun x H Q => ∃ a dx fs, x = .ref a ∧ H a = some (.ins C dx fs) ∧ sp [x] H Q E
theorem un_invO (hs : PySem.W.findIn X.K (.ref C) "__invert__" = some (some (.ref f))) (hf : PySem.W.isFn X.K (.ref f) = true) (F : FnOk X.prog X.w X.K X.mg X.base CX k f fd ps sp) (hr : Room k X.A) (hb : Binds X.K fd ps []) (hx : Passes CX X E) : UnR X (unaryOp .Invert) (rUnO C sp E) := by
  intro pins s σ H x v Q iv rx kq
  obtain ⟨a, dx, fs, rfl, ha, q⟩ := kq
  cases rx
  obtain ⟨mo, jv, _⟩ := ins_get iv.hok ha
  obtain ⟨od, jv, _⟩ := jv.look
  obtain ⟨m, hF⟩ := iv.fr
  exact PySem.W.ksp_inv hF iv.ok.mod.kin jv hs hf (run_in F hr rfl hb hx iv (.cons (rr a) .nil) q)
end
end AW

set_option linter.all false
set_option maxRecDepth 100000
set_option maxHeartbeats 4000000
namespace AW
open PySem PySem.Spec PyProof.Rows L2
abbrev Clause := Value × Nat × (Addr → Value → Option Addr → TS)
/-- behind a suite the clause's name is gone -/
def unD (D : Ends) (i : Nat) : Ends := { nx := fun σ' H' => D.nx (σ'.set i none) H', rt := D.rt, bk := fun σ' H' => D.bk (σ'.set i none) H', ct := fun σ' H' => D.ct (σ'.set i none) H' }
def wManyA (K : PySem.W.Frag) (Wout : WX) (D : Ends) : List Clause → WX
  | [] => Wout
  | (c, i, ts) :: r => fun cls d σ H => ∃ b, PySem.W.exmOne K cls c = some b ∧ (b = true → ∀ a, H a = none → ts a cls d (unD D i) (σ.set i (some (.ref a))) H) ∧ (b = false → wManyA K Wout D r cls d σ H)
inductive HdsOkA (X : Cx) : List ExceptHandler → List Clause → Prop
  | nil : HdsOkA X [] []
  | cons {x n : Str} {c : Value} {i : Nat} {ts : Addr → Value → Option Addr → TS} {b₀ : Stmt} {suite : List Stmt} {np pos' : Pos} {hds : List ExceptHandler} {l : List Clause} (hi : X.N[i]? = some n) (hln : X.env.kindOf n = some .local) (hc : Names X x c)
      (hsu : ∀ (a : Addr) (oe : Obj) (cls : Value) (d : Option Addr) (pn : List (Addr × Obj)), Zc cls d oe → (∃ vs, oe.data = .fields vs) → PSs (X.suite a ((a, oe) :: pn)) (b₀ :: suite) (ts a cls d)) (r : HdsOkA X hds l) :
      HdsOkA X (.ExceptHandler (some (.Name x np)) (some n) (b₀ :: suite) pos' :: hds) ((c, i, ts) :: l)
section
variable {X : Cx} {body : List Stmt} {h₀ : ExceptHandler} {hds : List ExceptHandler} {l : List Clause} {pos : Pos} {tb : WX → TS} {Wout : WX}
theorem ps_try_manyA (hs : X.stack = X.env :: X.outer) (hf : X.env.frame = some X.env.locals) (hN : X.N.Nodup) (tk : Takes X Wout)
    (hb : ∀ (W : WX) (pn : List (Addr × Obj)) (xe : Value → Shared → Prop), Takes (X.tr pn xe) W → PassesOwn (model X.prog X.w) X.A X.env xe → PSs (X.tr pn xe) body (tb W))
    (hh : HdsOkA X (h₀ :: hds) l) : PS X (.Try body (h₀ :: hds) [] [] pos) (fun D σ H => tb (wManyA X.K Wout D l) D σ H) := by
  refine ⟨fun pn0 s σ H D iv h => ?_⟩
  have okI := iv.ok
  have hFrames : X.A.frames = some (X.env :: X.outer) := by rw [okI.frames, hs]
  refine wpAny_Try_except ?_
  refine wpAny_mono ((hb (wManyA X.K Wout D l) (X.pn ++ pn0) (fun e s₁ => wpAny (model X.prog X.w) X.A (noteFrame e X.env) (fun _ s₂ => wpAny (model X.prog X.w) X.A (setFlight e none) (fun _ s₃ =>
    wpAny (model X.prog X.w) X.A (handleBy e X.env (h₀ :: hds)) (SP X pn0 D) X.xe s₃) X.xe s₂) X.xe s₁) (fun u s' xx => ?_) PassesOwn.looking).run [] s σ H D (iv.toTry _) h) (fun f s1 endp => ?_) (fun e s1 he => he)
  · obtain ⟨a, B, sI, pins', σ', H', cls, d, rfl, jw, nb, up, skA, na, os, ag, w⟩ := xx
    have jv : Inv X pn0 σ' H' sI := jw.ofTry okI
    have skB : Sky B (X.env :: X.outer) a (Zc cls d) X.env.locals s'.heap := by rw [← hs]; exact skA
    show wpAny (model X.prog X.w) X.A (noteFrame (.ref a) X.env) _ _ _
    refine Sky.land Zc.steady hFrames hf skB fun hpC flC upC => ?_
    have jC : Inv X pn0 σ' H' { s' with heap := hpC } := jv.landed nb flC.1 (up.trans upC) os ag
    obtain ⟨obC, vlC, heC, hzC, hdC⟩ := flC.there
    have frNot : ∀ {h : Heap} {o : Obj} {vs : Array Value}, h.FunFrames B (X.env :: X.outer) → h.get? a = some o → o.data = .fields vs → a ∉ frs (X.env :: X.outer) := fun {h o vs} ff e dd hmm => by
      obtain ⟨_, o', e', hnf⟩ := ff.mem hmm
      rw [e] at e'; cases e'
      exact hnf _ dd
    have frA := frNot flC.2.2.1 heC hdC
    have neL : a ≠ X.env.locals := fun z => frA (List.mem_filterMap.mpr ⟨X.env, List.mem_cons_self, by rw [hf, z]⟩)
    have neF : a ∉ X.fs := fun hmm => by
      obtain ⟨e, he, q⟩ := List.mem_filterMap.mp hmm
      exact frA (List.mem_filterMap.mpr ⟨e, List.mem_cons_of_mem _ he, q⟩)
    have suC := jC.suite heC hdC na neL neF
    have walk : ∀ {hds' : List ExceptHandler} {l' : List Clause}, HdsOkA X hds' l' → wManyA X.K Wout D l' cls d σ' H' →
        wpAny (model X.prog X.w) X.A (handleBy (.ref a) X.env hds') (SP X pn0 D) X.xe { s' with heap := hpC } := by
      intro hds' l' hk
      induction hk with
      | nil =>
        intro w
        refine wpAny_handleBy_nil ?_
        obtain ⟨k1, k2, k3, oe, vs, T, oT, ts', he, hz, hd, h1, hr⟩ := id flC
        unfold PySem.passOn
        refine wpAny_bind (wpAny_field he hd h1 ?_)
        rw [if_neg (show ¬ ((Value.ref T == Value.none) = true) from by simp)]
        have out : wpAny (model X.prog X.w) X.A (setFlight (.ref a) X.env.frame) (fun _ s4 => wpAny (model X.prog X.w) X.A (throw (.ref a) : Sem Flow) (SP X pn0 D) X.xe s4) X.xe { s' with heap := hpC } := by
          rw [hf]
          refine HandSPX.setFlight_upZ flC fun hpD hh4 upD => wpAny_throw (tk _ _ ?_)
          exact ⟨a, B, sI, pn0, σ', H', cls, d, rfl, jv, nb, (up.trans upC).trans upD, .inr (.inr (by rw [hs]; exact hh4)), na, os, ag, w⟩
        first
          | exact wpAny_bind (wpAny_pure (wpAny_bind out))
          | exact wpAny_bind out
      | @cons x n c i ts b₀ suite np pos' hds2 l2 hi hln hc hsu r ih =>
        intro w
        obtain ⟨b, hb1, hyes, hno⟩ := w
        have hloc : Loc X.env.scope n := .inl hln
        refine wpAny_handleBy_cons (codeAny_handlers_test ?_) (by intro q; cases q)
        have lkT : PySem.W.Looks (model X.prog X.w) hpC (typeOf (.ref a)) cls := fun A Q E s k q => wpAny_typeOf_ref (k _ _ heC) (by rw [hzC.1]; exact q)
        have lkM := PySem.W.exm_one (M := model X.prog X.w) (jC.kIn) lkT hb1
        have test : ∀ {Q : Value → Shared → Prop} {E : Value → Shared → Prop}, Q c { s' with heap := hpC } → wpAny (model X.prog X.w) (X.A.mark (some (.ref a))) (eval (.Name x np) X.env) Q E { s' with heap := hpC } := fun {Q E} q => by
          obtain ⟨hg, hdbg, hmm | ⟨hmm, hv, hnn⟩⟩ := hc
          · exact ld_glob (X := X.suite a ((a, obC) :: (X.pn ++ pn0))) suC hg hmm q hdbg
          · exact ld_blt (X := X.suite a ((a, obC) :: (X.pn ++ pn0))) suC hg hmm hv q hnn hdbg
        refine test (lkM.here ?_)
        cases b with
        | true =>
          refine codeAny_handlers_suite_as ?_
          refine HandSPX.lands_againZ flC fun hpD flD upD => ?_
          have jD : Inv X pn0 σ' H' { s' with heap := hpD } := jv.landed nb flD.1 ((up.trans upC).trans upD) os ag
          obtain ⟨obD, vlD, heD, hzD, hdD⟩ := flD.there
          have suD := jD.suite heD hdD na neL neF
          refine store_ok (X := X.suite a ((a, obD) :: (X.pn ++ pn0))) (v := .ref a) suD hN hi hloc rfl (fun shE suE => ?_) (.inr hln)
          refine wpAny_mono ((hsu a obD cls d (X.pn ++ pn0) hzD ⟨_, hdD⟩).run [] shE _ H' _ suE (hyes rfl a na)) (fun f shF endp => ?_) (fun _ _ z => False.elim z)
          have end_ : ∀ {stF : L2.St} {hpF : Hp} {Q : Shared → Prop}, Inv (X.suite a ((a, obD) :: (X.pn ++ pn0))) [] stF hpF shF → (∀ shG, Inv X pn0 (stF.set i none) hpF shG → Q shG) →
              wpAny (model X.prog X.w) X.A (do bindName X.env n .none; unbindBehindTheSuite X.env n pos') (fun _ shG => Q shG) X.xe shF := fun {stF hpF Q} suF hq => gone_ok (suF.unsuite okI) hN hi hln hq
          cases f with
          | next =>
            obtain ⟨stF, hpF, suF, qF⟩ := endp
            exact end_ suF fun shG jG => ⟨_, _, jG, qF⟩
          | brk =>
            obtain ⟨stF, hpF, suF, qF⟩ := endp
            exact end_ suF fun shG jG => ⟨_, _, jG, qF⟩
          | cont =>
            obtain ⟨stF, hpF, suF, qF⟩ := endp
            exact end_ suF fun shG jG => ⟨_, _, jG, qF⟩
          | ret u =>
            obtain ⟨vF, stF, hpF, suF, rF, qF⟩ := endp
            exact end_ suF fun shG jG => ⟨_, _, _, jG, rF, qF⟩
        | false =>
          show wpAny _ X.A (handleBy (.ref a) X.env hds2) _ _ _
          exact ih (hno rfl)
    exact walk hh w
  · cases f with
    | next =>
      obtain ⟨σ', H', jw, q⟩ := endp
      exact wpAny_execs_nil ⟨σ', H', jw.ofTry okI, q⟩
    | brk =>
      obtain ⟨σ', H', jw, q⟩ := endp
      exact ⟨σ', H', jw.ofTry okI, q⟩
    | cont =>
      obtain ⟨σ', H', jw, q⟩ := endp
      exact ⟨σ', H', jw.ofTry okI, q⟩
    | ret u =>
      obtain ⟨v, σ', H', jw, r, q⟩ := endp
      exact ⟨v, σ', H', jw.ofTry okI, r, q⟩
end
end AW

set_option linter.all false
set_option maxRecDepth 100000
set_option maxHeartbeats 4000000
namespace AW
open PySem PySem.Spec PyProof.Rows L2 LamX
/-- the function object of a lambda at f, its code object at d -/
def LamO (q : Str) (ar : Arguments) (bd : Expr) (sc : Scope) (cl : List (Str × Addr)) (f d : Addr) : HO :=
  .ext fun g => ∃ (u v : Value), g.get? f = some (PySem.W.kla_obj "<lambda>" q ar bd sc cl u d v)
section
variable {X : Cx} {pins : List (Addr × Obj)} {σ : L2.St} {H HZ : Hp} {s s1 : Shared}
abbrev lamq (X : Cx) : Str := X.env.qual ++ "<lambda>"
/-- the table at P has told the code object d, or tells it now -/
def Grown (P : Addr) (q : Str) (d : Addr) (H H1 : Hp) : Prop := (∃ (ps : Array Value) (pos : Pos), H P = some (.tbl ps) ∧ codeAmong pos ps.toList = some (.ref d) ∧ H1 = H) ∨
  (∃ (ps : Array Value) (pos : Pos), H P = some (.tbl ps) ∧ H d = none ∧ H1 = upd (upd H P (.tbl (ps ++ #[rawInt pos.line, rawInt pos.col, .ref d]))) d (CodeO d q))
theorem tabs_grow {T : List (Addr × Str)} {G : Hp} {P d : Addr} {q : Str} {ps : Array Value} {pos : Pos} (hT : Tabs T G) (hm : (P, q) ∈ T) (hu : ∀ p ∈ T, p.1 = P → p.2 = q) (hP : G P = some (.tbl ps)) (nD : G d = none) :
    Tabs T (upd (upd G P (.tbl (ps ++ #[rawInt pos.line, rawInt pos.col, .ref d]))) d (CodeO d q)) := by
  obtain ⟨ps', hP', ht, ha⟩ := hT _ hm
  rw [hP] at hP'
  cases hP'
  have keep : ∀ c r, G c = some (CodeO c r) → upd (upd G P (.tbl (ps ++ #[rawInt pos.line, rawInt pos.col, .ref d]))) d (CodeO d q) c = some (CodeO c r) := fun c r e => by
    have b2 : c ≠ P := fun z => by subst z; rw [hP] at e; exact codeO_ne ps (Option.some.inj e).symm
    rw [upd_ne (ne_of_none e nD), upd_ne b2]
    exact e
  intro p hp
  by_cases hb : p.1 = P
  · rw [hu p hp hb, hb]
    refine ⟨_, by rw [upd_ne (ne_of_none hP nD), upd_same], ?_, fun p' cv hcv => ?_⟩
    · rw [Array.toList_append]
      exact PySem.TriplesOk_snoc _ _ _ _ ht
    · rw [Array.toList_append] at hcv
      rcases among_app _ ht hcv with z | z
      · obtain ⟨c0, z1, z2⟩ := ha p' cv z
        exact ⟨c0, z1, keep _ _ z2⟩
      · exact ⟨d, z, upd_same⟩
  · obtain ⟨ps2, z1, z2, z3⟩ := hT p hp
    refine ⟨ps2, by rw [upd_ne (ne_of_none z1 nD), upd_ne hb]; exact z1, z2, fun p' cv hcv => ?_⟩
    obtain ⟨c0, w1, w2⟩ := z3 p' cv hcv
    exact ⟨c0, w1, keep _ _ w2⟩
theorem lam_kept {T : List (Addr × Str)} {c P : Addr} {ar : Arguments} {bd : Expr} {sc : Scope} {pos : Pos} {E Q : Value → Shared → Prop} (I : Inv X pins σ H s) (TB : TabB X.base X.mg c P) (hc0 : X.env.code = .ref c)
    (hm : (P, lamq X) ∈ T) (hT : Tabs T H) (hdef : defaultsOf ar X.env = ([], [])) (hfr : ∀ y ∈ sc.names, y.2 = .free → ∃ c, X.env.cells.lookup y.1 = some c)
    (h : ∀ (f d : Addr) (H1 : Hp) (s' : Shared), Inv X pins σ (upd H1 f (LamO (lamq X) ar bd sc (cloFrom X.env.cells sc.names []) f d)) s' → Grown P (lamq X) d H H1 → H1 f = none → Q (.ref f) s') :
    wpAny (model X.prog X.w) X.A (eval (.Lambda ar bd sc pos) X.env) Q E s := by
  obtain ⟨ps, hP, ht, ha⟩ := hT _ hm
  have bP := TB.bm.keeps I.bk
  have hP2 : s.heap.get? P = some { cls := .none, data := .fields ps } := I.hok P _ hP
  -- the object laid behind all others
  have lay : ∀ (H1 : Hp) (g : Heap) (tk : Nat) (d : Addr) (m v : Value), Inv X pins σ H1 { s with heap := g, toks := tk } → Grown P (lamq X) d H H1 →
      Q (.ref g.objs.size) { s with heap := g.push (PySem.W.kla_obj "<lambda>" (lamq X) ar bd sc (cloFrom X.env.cells sc.names []) m d v), toks := tk } := fun H1 g tk d m v J e1 =>
    h g.objs.size d H1 _ (J.laid (t' := tk) (fun b o e => Heap.get?_push_of_some _ e) (Nat.le_refl _)
      ⟨⟨m, v, Heap.get?_push_size _ rfl⟩, ⟨_, Heap.get?_push_size _ rfl⟩, fun g1 g2 ⟨u1, u2, k⟩ st => ⟨u1, u2, st _ k⟩⟩) e1 (J.hok.fresh (Nat.le_refl _))
  refine PySem.W.kla_eval hdef ?_
  cases hcod : codeAmong pos ps.toList with
  | some cv =>
    obtain ⟨d, ed, hd⟩ := ha pos cv hcod
    subst ed
    refine PySem.W.kla_makeFunctionHit (mg := X.mg) (c := c) (P := P) (ps := ps) (closure_ok hfr) I.ok.glob (I.mod.glob.keeps I.bk) hc0 (TB.code.keeps I.bk) hP2 ht hcod bP fun v g tk hx hsz => ?_
    exact lay H g tk d _ v (I.kept fun b o e => hx b o e) (.inl ⟨ps, pos, hP, hcod, rfl⟩)
  | none =>
    refine PySem.W.kla_makeFunction (mg := X.mg) (c := c) (P := P) (ps := ps) (closure_ok hfr) I.ok.glob (I.mod.glob.keeps I.bk) hc0 (TB.code.keeps I.bk) hP2 ht hcod TB.gP bP fun d v g tk hx hge hlt hrec htb => ?_
    obtain ⟨d2, oc, vs, t, e2, k1, k2, k3⟩ := hrec
    cases e2
    have nD : H d = none := I.hok.fresh hge
    have J := inv_table (t' := tk) (more := #[rawInt pos.line, rawInt pos.col, .ref d]) (h' := g) I hP (fun b o hb e => hx b o hb e) htb hge ⟨oc, vs, t, k1, k2, k3⟩
    exact lay _ g tk d _ v J (.inr ⟨ps, pos, hP, nD, rfl⟩)
/-- a kept lambda is called by the def that got it -/
theorem act_kept {CXg : CXT} {Eg : XK} {Ng : List Str} {qg : Str} {sg : Scope} {g f d : Addr} {cdg : Value} {ar : Arguments} {bd : Expr} {sc : Scope} {k i : Nat} {a : Str} {pn : List (Addr × Obj)} {xe : Value → Shared → Prop} {W : WX} {E : XK} {tb : TE} {p1 p2 : Pos}
    (I : Inv X pins σ H s) (L : LamS X.env.scope sc)
    (hbind : ∀ (cl : List (Str × Addr)) (pm cv ctv : Value), bindArgs (PySem.W.kla_fn "<lambda>" (lamq X) ar bd sc cl pm cv ctv) ⟨[], []⟩ = pure [])
    (tk : Takes ((cxOf CXg X.prog X.w X.K X.mg X.base Ng qg sg g cdg X.A X.stack s H Eg).tr pn xe) W) (hW : ∀ cls x σ' H', E cls x H' → W cls x σ' H') (hr : Room (k + 1) (X.A.deeper (envOfC qg sg s.heap.objs.size g cdg)))
    (hbody : ∀ (A : Around) (outer : List Env) (s : Shared) (H : Hp), Room k (A.deeper (lamEnv X sc s.heap.objs.size f d)) → PE (lamCx X A outer s H E sc f d) bd tb)
    (hN : Ng[i]? = some a) (hv : Vis sg a) (hd : (a == ("__debug__" : Str)) = false) (hcd : (a == ("__classdict__" : Str)) = false) :
    PE ((cxOf CXg X.prog X.w X.K X.mg X.base Ng qg sg g cdg X.A X.stack s H Eg).tr pn xe) (.Call (.Name a p1) [] [] p2)
      (fun σZ HZ Q => σZ[i]? = some (some (.ref f)) ∧ HZ f = some (LamO (lamq X) ar bd sc (cloFrom X.env.cells sc.names []) f d) ∧ HZ d = some (CodeO d (lamq X)) ∧ tb σ HZ Q) := by
  refine ⟨fun pz sz σz HZ Q J ⟨g1, g2, g3, g4⟩ => ?_⟩
  have ld := (pe_var (pos := p1) (i := i) hN hv hd hcd).run pz sz σz HZ (fun v H1 => v = .ref f ∧ H1 = HZ) J ⟨.ref f, g1, rfl, rfl⟩
  refine wpAny_Call_Name_kw (thn ld fun u s2 ⟨v, H1, J1, r1, ev, eH⟩ => ?_)
  subst ev
  subst eH
  obtain rfl : u = Value.ref f := r1
  obtain ⟨⟨pm, ctv, obj⟩, _, _⟩ := J1.hok f _ g2
  obtain ⟨⟨oc, vs, t, co1, co2, co3⟩, _, _⟩ := J1.hok d _ g3
  refine PySem.W.callWith_F0 ⟨_, _, _, _, obj⟩ ?_
  have u1 : Un (frs X.stack) [] H H1 s.heap s2.heap := J1.base
  have e1 := J1.env0
  have run : codeAny (model X.prog X.w) (X.A.deeper (envOfC qg sg s.heap.objs.size g cdg)) (.call (.ref f) ⟨[], []⟩) (CR (L2.CX X.prog X.w) (envOfC qg sg s.heap.objs.size g cdg :: X.stack) X.prog X.w H1 s2 Q E) s2 := by
    refine PySem.W.kla_callFunE hr.depth obj rfl L.co L.gen rfl ⟨d, oc, vs, t, rfl, co1, co2, co3⟩ ?_
    rw [hbind]
    refine wpAny_pure (wpAny_newFunctionEnv (fun y hy => (L.own y hy).2) (fun y hy => nomatch hy) (fun h1 q1 q2 => ⟨J1.nolimit.fresh _ q2, ?_⟩) L.kind)
    have kp : ∀ b o, s2.heap.get? b = some o → h1.get? b = some o := fun b o e => by
      refine q2.extBut b o ?_ (Heap.get?_push_of_some _ e)
      exact Nat.ne_of_lt (Heap.lt_size e)
    have st := lam_start2 (A := X.A.deeper (envOfC qg sg s.heap.objs.size g cdg)) (outer := envOfC qg sg s.heap.objs.size g cdg :: X.stack) (E := E) (f := f) (c' := d) (tk := s2.toks + ([] : List (Str × Value)).length) I L e1 hr.hd u1 q1 kp
    refine PySem.W.kla_codeExpr (wpAny_mono ((hbody _ _ s2 H1 (hr.deeper _)).run [] _ _ H1 Q st g4) ?_ fun e s' z => z)
    rintro v s' ⟨w', H', J', rv, z⟩
    exact ⟨w', H', J'.os, J'.bare, J'.base, J'.hok, rv, z⟩
  have ps := passes_call tk hW
  refine wpAny_call (codeAny_mono run fun r s' z => ?_)
  match r, z with
  | .error e, z => exact ps pz σz H1 s2 e s' J1 z
  | .ok (.ret u), z => exact J1.after z
/-- a def that calls the kept lambda it got -/
def GivesK (X : Cx) (Ng : List Str) (x : Str) (sg : Scope) (g : Addr) (cdg : Value) (bg : List Stmt) (a : Str) (q : Str) (mk : Addr → Addr → HO) (TT : (XK → Hp → VK → Prop) → Hp → VK → Prop) : Prop :=
  ∀ (f d : Addr) (s : Shared) (H : Hp) (Q : VK) (tl : XK → Hp → VK → Prop),
    (∀ (W : WX) (pn : List (Addr × Obj)) (xe : Value → Shared → Prop) (E : XK) (p1 p2 : Pos), Takes ((cxOf C8.CX0 X.prog X.w X.K X.mg X.base Ng x sg g cdg X.A X.stack s H C8.E0).tr pn xe) W → (∀ cls d σ' H', E cls d H' → W cls d σ' H') →
      PE ((cxOf C8.CX0 X.prog X.w X.K X.mg X.base Ng x sg g cdg X.A X.stack s H C8.E0).tr pn xe) (.Call (.Name a p1) [] [] p2)
        (fun σZ HZ Q => σZ[0]? = some (some (.ref f)) ∧ HZ f = some (mk f d) ∧ HZ d = some (CodeO d q) ∧ tl E HZ Q)) →
    H f = some (mk f d) → H d = some (CodeO d q) → TT tl H Q →
    ∃ t, PSs (cxOf C8.CX0 X.prog X.w X.K X.mg X.base Ng x sg g cdg X.A X.stack s H C8.E0).nox bg t ∧ t { nx := fun _ H' => Q .non H', rt := Q } (L2.start Ng [.ref f]) H
end
end AW

set_option linter.all false
set_option maxRecDepth 100000
set_option maxHeartbeats 4000000
namespace AW
open PySem PySem.Spec PyProof.Rows L2 LamX
section
variable {X : Cx}
end
end AW

set_option linter.all false
set_option maxRecDepth 100000
set_option maxHeartbeats 4000000
namespace AW
open PySem PySem.Spec PyProof.Rows L2 LamX
section
variable {X : Cx}
def tLamA (T : List (Addr × Str)) (P : Addr) (q : Str) (mk : Addr → Addr → HO) (TT : (XK → Hp → VK → Prop) → Hp → VK → Prop) (t : XK → TE) : TE := fun σ H Q =>
  Tabs T H ∧ ∀ f d H1, Grown P q d H H1 → H1 f = none → TT (fun E H' Q' => t E σ H' Q') (upd H1 f (mk f d)) Q
theorem pe_lamarg {T : List (Addr × Str)} {TT : (XK → Hp → VK → Prop) → Hp → VK → Prop} {x a : Str} {g c P : Addr} {k : Nat} {pg : Arguments} {bg : List Stmt} {sg : Scope} {dV kV doc pm cdv ct oc : Value} {an od : Option Addr} {osl : Array (Option Value)} {Ng : List Str}
    {ar : Arguments} {bd : Expr} {sc : Scope} {t : XK → TE} {p lpos pos : Pos} (hg : Gl X x) (hm : X.mg x = some (.ref g)) (hk : PySem.W.keepIn X.K (.ref g) = true)
    (lk : X.K.lookup g = some ⟨oc, od, .func (PySem.W.fnOf x x pg bg sg dV kV doc pm an cdv ct), osl⟩) (hcg : PySem.W.codeIn X.K cdv x = true) (hb : L2.Binds X.K (PySem.W.fnOf x x pg bg sg dV kV doc pm an cdv ct) [a] []) (Sg : FnScope Ng [a] sg) (hNg : Ng[0]? = some a) (hva : Vis sg a)
    (hG : GivesK X Ng x sg g cdv bg a (lamq X) (LamO (lamq X) ar bd sc (cloFrom X.env.cells sc.names [])) TT)
    (TB : TabB X.base X.mg c P) (hc0 : X.env.code = .ref c) (hmT : (P, lamq X) ∈ T) (hr : Room (k + 2) X.A) (L : LamS X.env.scope sc) (hdef : defaultsOf ar X.env = ([], []))
    (hbind : ∀ (q : Str) (cl : List (Str × Addr)) (pm cv ctv : Value), bindArgs (PySem.W.kla_fn "<lambda>" q ar bd sc cl pm cv ctv) ⟨[], []⟩ = pure [])
    (hbody : ∀ (A : Around) (outer : List Env) (s : Shared) (H : Hp) (E : XK) (f d : Addr), Room k (A.deeper (lamEnv X sc s.heap.objs.size f d)) → PE (lamCx X A outer s H E sc f d) bd (t E))
    (hdb : (x == ("__debug__" : Str)) = false := by decide) (hd : (a == ("__debug__" : Str)) = false := by decide) (hcd : (a == ("__classdict__" : Str)) = false := by decide) :
    PE X (.Call (.Name x p) [.Lambda ar bd sc lpos] [] pos) (tLamA T P (lamq X) (LamO (lamq X) ar bd sc (cloFrom X.env.cells sc.names [])) TT t) := by
  refine ⟨fun pins s σ H Q I ⟨hT, h⟩ => ?_⟩
  refine wpAny_Call_Name_kw (ld_glob I hg hm ?_ hdb)
  refine PySem.W.callWith_K (h₀ := X.base) I.ok.mod.kin hk ?_ (by rfl) (by rfl)
  refine Calls.spliced_cons (lam_kept I TB hc0 hmT hT hdef (L.has I.ok) fun f d H1 s2 J gr n1 => ?_)
  refine Calls.spliced_nil ⟨J.kIn, ?_⟩
  have nd : d ≠ f := by
    intro z
    subst z
    rcases gr with ⟨ps, pos', e1, e2, e3⟩ | ⟨ps, pos', e1, e2, e3⟩
    · subst e3
      obtain ⟨ps2, k1, _, k3⟩ := hT _ hmT
      rw [e1] at k1
      cases k1
      obtain ⟨c2, k4, k5⟩ := k3 _ _ e2
      cases k4
      rw [k5] at n1
      cases n1
    · subst e3
      rw [upd_same] at n1
      cases n1
  have kd : upd H1 f (LamO (lamq X) ar bd sc (cloFrom X.env.cells sc.names []) f d) d = some (CodeO d (lamq X)) := by
    rw [upd_ne nd]
    rcases gr with ⟨ps, pos', e1, e2, e3⟩ | ⟨ps, pos', e1, e2, e3⟩
    · subst e3
      obtain ⟨ps2, k1, _, k3⟩ := hT _ hmT
      rw [e1] at k1
      cases k1
      obtain ⟨c2, k4, k5⟩ := k3 _ _ e2
      cases k4
      exact k5
    · subst e3
      exact upd_same
  have run : codeAny (model X.prog X.w) X.A (.call (.ref g) ⟨[.ref f], []⟩) (CR C8.CX0 X.stack X.prog X.w (upd H1 f (LamO (lamq X) ar bd sc (cloFrom X.env.cells sc.names []) f d)) s2 Q C8.E0) s2 := by
    refine run_ofS (N := Ng) (ps := [a]) (us := [.ref f]) (vs := [.ref f]) lk hcg Sg hr J.env0 (hb s2 [.ref f] J.kIn rfl) (.cons rfl .nil) rfl fun hr2 => ?_
    obtain ⟨t2, ht, hq⟩ := hG f d s2 _ Q (fun E H' Q' => t E σ H' Q') (fun W pn xe E p1 p2 tk hW => act_kept (i := 0) J L (fun cl pm cv ctv => hbind _ cl pm cv ctv) tk hW hr2 (fun A outer s H hr3 => hbody A outer s H E f d hr3) hNg hva hd hcd) upd_same kd (h f d H1 gr n1)
    exact ⟨t2, ht.nox, hq⟩
  refine wpAny_call (codeAny_mono run fun r s' z => ?_)
  match r, z with
  | .error e, z => exact (show False from z).elim
  | .ok (.ret u), z => exact J.after z
end
end AW

set_option linter.all false
set_option maxRecDepth 100000
set_option maxHeartbeats 4000000
namespace AW
open PySem PySem.Spec PyProof.Rows L2
end AW

set_option linter.all false
set_option maxRecDepth 100000
set_option maxHeartbeats 4000000
namespace AW
open PySem PySem.Spec PyProof.Rows L2
section
variable {M : Model} {A : Around} {E : Value → Shared → Prop} {s : Shared} {pos : Pos} {x C : Addr} {Q : Value → Shared → Prop}
end
end AW

set_option linter.all false
set_option maxRecDepth 100000
set_option maxHeartbeats 4000000
namespace AW
open PySem PySem.Spec PyProof.Rows L2
section
variable {X : Cx}
end
end AW

set_option linter.all false
set_option maxRecDepth 100000
set_option maxHeartbeats 1000000
namespace RM
open PySem PySem.Spec PyProof.Rows L2 PySem.W
section
variable {X : Cx}
end
end RM

set_option linter.all false
set_option maxRecDepth 100000
set_option maxHeartbeats 4000000
namespace RN
open PySem PySem.SeqAt GQ
open AutoSeq1 (wpAny_loadPart')
open MeetsSeq MeetsSeq2 MeetsSeq3 SeqRoads2
section
variable {prog : Program} {w : World} {A : Around} {R : Result → Shared → Prop}
end
section
variable {prog : Program} {w : World} {A : Around} {E : Value → Shared → Prop} {s : Shared}
end
end RN
namespace AW
open PySem PySem.Spec PyProof.Rows L2
section
variable {X : Cx} {n : Nat} {D : Eqv}
end
end AW

set_option linter.all false
set_option maxRecDepth 100000
set_option maxHeartbeats 4000000
namespace AW
open PySem PySem.Spec PyProof.Rows L2
section
variable {X : Cx}
end
end AW

set_option linter.all false
set_option maxRecDepth 100000
set_option maxHeartbeats 4000000
namespace RN
open PySem PySem.SeqAt GQ
open AutoSeq1 (wpAny_loadPart')
open MeetsSeq MeetsSeq2 MeetsSeq3 SeqRoads2
section
variable {prog : Program} {w : World} {A : Around} {R : Result → Shared → Prop}
end
section
variable {prog : Program} {w : World} {A : Around} {E : Value → Shared → Prop} {s : Shared}
end
end RN
namespace AW
open PySem PySem.Spec PyProof.Rows L2
section
variable {X : Cx}
end
end AW

set_option linter.all false
set_option maxRecDepth 100000
set_option maxHeartbeats 4000000
namespace AW
open PySem PySem.Spec PyProof.Rows L2
section
variable {X : Cx}
/-- {k: v}, k a tuple -/
def tDisp1T (tk tv : TE) : TE := fun σ H Q => ∀ p, H p = none → tk σ (upd H p (.dT [])) fun x H1 => tv σ H1 fun y H2 => H2 p = some (.dT []) ∧ ∃ (b : Addr) (k : List L2.Key), x = .ref b ∧ H2 b = some (.tup (k.map kV)) ∧ Q (.ref p) (upd H2 p (.dT [(k, y)]))
theorem pe_disp1T {ke ve : Expr} {tk tv : TE} {pos : Pos} (hu : X.A.units < cLine) (hk : PE X ke tk) (hv : PE X ve tv) : PE X (.Dict [some ke] [ve] pos) (tDisp1T tk tv) := by
  refine ⟨fun pins s σ H Q I q => ?_⟩
  have hn := I.hok.fresh (Nat.le_refl s.heap.objs.size)
  have I1 := I.laid (a := s.heap.objs.size) (o := .dT []) (h' := s.heap.push { cls := .type "dict", data := .dict #[] }) (t' := s.toks) (fun _ _ q => Heap.get?_push_of_some _ q) (Nat.le_refl _) (dt_empty s.heap I.big)
  have hshape : (evalEachOpt [some ke] X.env).zip ((evalEach [ve] X.env).map fun v => do let x ← v; standAt pos; pure x) = (pairTrees [some ke] [ve] X.env pos).map fun p => (some p.1, p.2) := rfl
  rw [arm_eval_Dict, hshape, dictDisplay_pairs (pairTrees [some ke] [ve] X.env pos) (fun h => nomatch h) (by show 1 < 17; decide)]
  refine wpAny_bind (wpAny_standAt (wpAny_bind (wpAny_subDictH (knd := tupleKind (mixKind X.prog X.w)) (Q := fun d s' => wpAny (model X.prog X.w) X.A (pure (Value.ref d)) (EP X pins σ Q) X.xe s') hu (by show 1 ≤ 15; decide) (thn ((pps_cons hk hv pps_nil).run pins _ σ _ (fun ps H2 => match ps with
    | [(x, y)] => H2 s.heap.objs.size = some (.dT []) ∧ ∃ (b : Addr) (k : List L2.Key), x = .ref b ∧ H2 b = some (.tup (k.map kV)) ∧ Q (.ref s.heap.objs.size) (upd H2 s.heap.objs.size (.dT [(k, y)]))
    | _ => False) I1 (q _ hn)) fun ws s2 ⟨ps, H2, I2, rel, q2⟩ => ?_))))
  match ps, rel, q2 with
  | [(x, y)], rel, ⟨e, b, k, ex, eb, q2⟩ =>
    subst ex
    cases rel with
    | @cons _ w1 _ ws1 h t =>
      cases t
      obtain ⟨kw, vw⟩ := w1
      obtain ⟨hkw, hvw⟩ := h
      obtain rfl : kw = Value.ref b := hkw
      obtain ⟨z, hd, xs, rl, dd⟩ := dt_of I2.hok e
      cases rl
      refine ⟨[(k, b, vw)], ⟨rfl, rfl, key_of I2.hok eb, trivial⟩, dd, fun h' tk dd' hs => wpAny_pure ⟨.ref s.heap.objs.size, _, ?_, rfl, q2⟩⟩
      obtain ⟨o, es, ep, hq, h2, h3, h4, h5⟩ := dd'
      refine d_write I2 (by rw [e]; exact True.intro) hs ⟨o, hq⟩ ⟨by show 1 ≤ _; decide, hd, [(k, b, vw)], .cons ⟨rfl, ?_, hvw⟩ .nil, o, es, ep, hq, h2, h3, h4, h5.2⟩
      rw [upd_ne (ne_of eb e (fun z => nomatch z))]
      exact eb
end
section
variable {X : Cx}
end
end AW

set_option linter.all false
set_option maxRecDepth 100000
set_option maxHeartbeats 4000000
namespace AW
open PySem PySem.Spec PyProof.Rows L2
abbrev I3 := Int × Int × Int
def IsTrip (h : Heap) (v : Value) (p : I3) : Prop := ∃ a o t u w n, v = .ref a ∧ h.get? a = some o ∧ o.cls = .type "tuple" ∧ o.data = .seq #[.int p.1 t, .int p.2.1 u, .int p.2.2 w] n
theorem IsTrip.keeps {h h' : Heap} {v : Value} {x : I3} (p : IsTrip h v x) (k : ∀ b o, h.get? b = some o → o.cls = .type "tuple" → h'.get? b = some o) : IsTrip h' v x := by
  obtain ⟨a, o, t, u, w, n, e, ho, hc, hd⟩ := p
  exact ⟨a, o, t, u, w, n, e, k _ _ ho hc, hc, hd⟩
section
variable {prog : Program} {w : World} {A : Around} {s : Shared}
end
section
variable {X : Cx}
end
end AW

set_option linter.all false
set_option maxRecDepth 100000
set_option maxHeartbeats 4000000
namespace AW
open PySem PySem.Spec PyProof.Rows L2
section
variable {X : Cx} {CX : CXT} {k : Nat} {f C : Addr} {fd : FuncData} {ps : List Str} {ds : List Value} {dvs : List V} {sp : Sp} {E : XK} {x : Str} {e : Expr} {te : TE} {p q pos : Pos}
end
end AW

set_option linter.all false
set_option maxRecDepth 100000
set_option maxHeartbeats 4000000
namespace AW
open PySem PySem.Spec PyProof.Rows L2
section
variable {X : Cx}
end
end AW

set_option linter.all false
set_option maxRecDepth 100000
set_option maxHeartbeats 4000000
namespace AW
open PySem PySem.Spec PyProof.Rows L2
end AW

set_option linter.all false
set_option maxRecDepth 100000
set_option maxHeartbeats 4000000
namespace AW
open PySem PySem.Spec PyProof.Rows L2
section
variable {prog : Program} {w : World} {A : Around} {E : Value → Shared → Prop} {s : Shared}
end
section
variable {X : Cx}
end
end AW

set_option linter.all false
set_option maxRecDepth 100000
set_option maxHeartbeats 4000000
namespace AW
open PySem PySem.Spec PyProof.Rows L2
end AW

set_option linter.all false
set_option maxRecDepth 100000
set_option maxHeartbeats 4000000
namespace AW
open PySem PySem.Spec PyProof.Rows L2
end AW

set_option linter.all false
set_option maxRecDepth 100000
set_option maxHeartbeats 4000000
namespace AWR
open PySem PySem.W PyProof.Rows Builtin
section
variable {prog : Program} {w : World} {A : Around} {E : Value → Shared → Prop} {s : Shared} {K : Frag} {x C f : Addr} {ox : Obj} {oD : Option Obj} {b tb : Value}
end
end AWR
namespace AW
open PySem PySem.Spec PyProof.Rows L2
section
variable {X : Cx} {CX : CXT} {k : Nat} {C f : Addr} {fd : FuncData} {ps : List Str} {sp : Sp} {E : XK}
end
end AW

set_option linter.all false
set_option maxRecDepth 100000
set_option maxHeartbeats 4000000
namespace RI
open PySem PySem.SeqAt
section
variable {prog : Program} {w : World} {A : Around} {E : Value → Shared → Prop} {s : Shared} {K : PySem.W.Frag} {x y C : Addr} {ox oy : Obj} {od od' : Option Obj}
end
end RI
namespace AW
open PySem PySem.Spec PyProof.Rows L2
section
variable {X : Cx}
end
end AW

set_option linter.all false
set_option maxRecDepth 100000
set_option maxHeartbeats 1000000
namespace RM
open PySem PySem.Spec PyProof.Rows L2 PySem.W
section
variable {X : Cx}
end
end RM

set_option linter.all false
set_option maxRecDepth 100000
set_option maxHeartbeats 4000000
namespace AW
open PySem PySem.Spec PyProof.Rows L2 LamX
/-- the tables of the lambdas, of a law's text -/
class Tbs where
  T : List (Addr × Str)
inductive D where
  | non | bl (b : Bool) | int (i : Int) | str (x : Str)
  | tup (ds : List D) | lst (ds : List D)
  | ins (C : Addr) (ns : List Str) (ds : List D)
  | pen (k l : Str)
  | scr (ns : List Int)
  | val (v : V)
  | lam (q : Str) (mk : Addr → Addr → HO)
  | at_ (u : V) (d : D)
  | edk
  | dk (ks : List Str) (ds : List D)
  | tb (d : D)
  | kt (ks : List Key)
  | dt (lk : Bool) (ks : List (List Key)) (ds : List D)
def penE (k l : Str) (c : Addr) (s r : Int) : List (Key × V) := [(Sum.inr "cells", .ref c), (Sum.inr k, .int s), (Sum.inr l, .int r)]
def IsPen (o : HO) : Prop := (∃ k l c s r, o = .dK (penE k l c s r)) ∨ ∃ ps, o = .tbl ps
/-- how many cells a pen has: the tape of the tables' laws (keys at, rest) has one at least -/
def PenL (k l : Str) (n : Nat) : Prop := n ≤ 63 ∧ (k = "at" → l = "rest" → 0 < n)
variable [Tbs]
section
variable (K : PySem.W.Frag) (G : Hp) (B : Int)
mutual
def Rep : D → V → Prop
  | .non, v => v = .non
  | .bl b, v => v = .bl b
  | .int i, v => v = .int i
  | .str x, v => v = .str x
  | .tup ds, v => ∃ a vs, v = .ref a ∧ SqT K G a vs ∧ RepL ds vs
  | .lst ds, v => ∃ a vs, v = .ref a ∧ G a = some (.lst vs) ∧ RepL ds vs
  | .ins C ns ds, v => ∃ a dx vs, v = .ref a ∧ G a = some (.ins C dx (ns.zip vs)) ∧ ns.length = vs.length ∧ RepL ds vs
  | .pen k l, v => Tabs Tbs.T G ∧ ∃ (a c : Addr) (ns : List Int) (s r : Int), v = .ref a ∧ G a = some (.dK (penE k l c s r)) ∧ G c = some (.lst (ns.map V.int)) ∧ PenL k l ns.length ∧ 0 ≤ s ∧ s ≤ B
  | .val u, v => v = u
  | .at_ u d, v => v = u ∧ Rep d v
  | .tb d, v => Tabs Tbs.T G ∧ Rep d v
  | .edk, v => ∃ a, v = .ref a ∧ G a = some (.dK [])
  | .dk ks ds, v => ∃ a vs, v = .ref a ∧ G a = some (.dK (mergeK [] ((ks.zip vs).map fun p => ((Sum.inr p.1 : Key), p.2)))) ∧ ¬ IsPen (.dK (mergeK [] ((ks.zip vs).map fun p => ((Sum.inr p.1 : Key), p.2)))) ∧ RepL ds vs
  | .kt ks, v => ∃ a, v = .ref a ∧ G a = some (.tup (ks.map kV))
  | .dt lk ks ds, v => ∃ a vs, v = .ref a ∧ (G a = some (.dT (ks.zip vs)) ∨ lk = true ∧ ∃ o, G a = some (.frz o (.dT (ks.zip vs)))) ∧ ks.length = vs.length ∧ RepL ds vs
  | .lam q mk, v => ∃ f d, v = .ref f ∧ G f = some (mk f d) ∧ G d = some (CodeO d q) ∧ ¬ IsPen (mk f d)
  | .scr ns, v => Tabs Tbs.T G ∧ ∃ a, v = .ref a ∧ SqL K G a ((ns : List Int).map V.int)
def RepL : List D → List V → Prop
  | [], vs => vs = []
  | d :: ds, vs => ∃ v r, vs = v :: r ∧ Rep d v ∧ RepL ds r
end
end
def Sub (G H : Hp) : Prop := ∀ a o, G a = some o → H a = some o
structure Le (G : Hp) (B : Int) (G' : Hp) (B' : Int) : Prop where
  b : B ≤ B'
  keep : ∀ a o, G a = some o → ¬ IsPen o → G' a = some o
  pen : ∀ a k l c s r, G a = some (.dK (penE k l c s r)) → ∃ s' r', G' a = some (.dK (penE k l c s' r')) ∧ (0 ≤ s → s ≤ B → 0 ≤ s' ∧ s' ≤ B')
  tb : Tabs Tbs.T G → Tabs Tbs.T G'
theorem Le.refl (G : Hp) (B : Int) : Le G B G B := ⟨Int.le_refl _, fun _ _ h _ => h, fun _ _ _ _ s r h => ⟨s, r, h, fun a b => ⟨a, b⟩⟩, fun h => h⟩
theorem Le.trans {G G1 G2 : Hp} {B B1 B2 : Int} (a : Le G B G1 B1) (b : Le G1 B1 G2 B2) : Le G B G2 B2 :=
  ⟨Int.le_trans a.b b.b, fun c o h n => b.keep c o (a.keep c o h n) n, fun c k l q s r h => by
    obtain ⟨s1, r1, h1, k1⟩ := a.pen c k l q s r h
    obtain ⟨s2, r2, h2, k2⟩ := b.pen c k l q s1 r1 h1
    exact ⟨s2, r2, h2, fun x y => k2 (k1 x y).1 (k1 x y).2⟩, fun h => b.tb (a.tb h)⟩
theorem Le.of_sub {G H : Hp} {B B' : Int} (s : Sub G H) (b : B ≤ B') : Le G B H B' := ⟨b, fun a o h _ => s a o h, fun a k l c z r h => ⟨z, r, s _ _ h, fun x y => ⟨x, Int.le_trans y b⟩⟩, fun h => h.ext s⟩
theorem nopen_tup {xs : List V} : ¬ IsPen (.tup xs) := fun h => by
  rcases h with ⟨_, _, _, _, _, h⟩ | ⟨_, h⟩ <;> cases h
theorem nopen_lst {xs : List V} : ¬ IsPen (.lst xs) := fun h => by
  rcases h with ⟨_, _, _, _, _, h⟩ | ⟨_, h⟩ <;> cases h
theorem nopen_ins {C dx : Addr} {fs : List (Str × V)} : ¬ IsPen (.ins C dx fs) := fun h => by
  rcases h with ⟨_, _, _, _, _, h⟩ | ⟨_, h⟩ <;> cases h
theorem nopen_frz {o : Obj} {u : HO} : ¬ IsPen (.frz o u) := fun h => by
  rcases h with ⟨_, _, _, _, _, h⟩ | ⟨_, h⟩ <;> cases h
theorem nopen_edk : ¬ IsPen (.dK []) := fun h => by
  rcases h with ⟨_, _, _, _, _, h⟩ | ⟨_, h⟩ <;> cases h
theorem nopen_code {c : Addr} {q : Str} : ¬ IsPen (CodeO c q) := fun h => by
  unfold CodeO at h
  rcases h with ⟨_, _, _, _, _, h⟩ | ⟨_, h⟩ <;> cases h
theorem nopen_dT {kvs : List (List Key × V)} : ¬ IsPen (.dT kvs) := fun h => by
  rcases h with ⟨_, _, _, _, _, h⟩ | ⟨_, h⟩ <;> cases h
theorem Le.seqT {K : PySem.W.Frag} {G G' : Hp} {B B' : Int} {a : Addr} {xs : List V} (l : Le G B G' B') (h : SqT K G a xs) : SqT K G' a xs := by
  rcases h with (h | ⟨o, h⟩) | h
  · exact .inl (.inl (l.keep _ _ h nopen_tup))
  · exact .inl (.inr ⟨o, l.keep _ _ h nopen_frz⟩)
  · exact .inr h
theorem Le.seqL {K : PySem.W.Frag} {G G' : Hp} {B B' : Int} {a : Addr} {xs : List V} (l : Le G B G' B') (h : SqL K G a xs) : SqL K G' a xs := by
  rcases h with (h | ⟨o, h⟩) | h
  · exact .inl (.inl (l.keep _ _ h nopen_lst))
  · exact .inl (.inr ⟨o, l.keep _ _ h nopen_frz⟩)
  · exact .inr h
section
variable {K : PySem.W.Frag} {G G' : Hp} {B B' : Int}
mutual
theorem Rep.mono (l : Le G B G' B') : ∀ {d : D} {v : V}, Rep K G B d v → Rep K G' B' d v
  | .non, _, h => h
  | .bl _, _, h => h
  | .int _, _, h => h
  | .str _, _, h => h
  | .tup _, _, ⟨a, vs, e, h, r⟩ => ⟨a, vs, e, l.seqT h, RepL.mono l r⟩
  | .lst _, _, ⟨a, vs, e, h, r⟩ => ⟨a, vs, e, l.keep _ _ h nopen_lst, RepL.mono l r⟩
  | .ins _ _ _, _, ⟨a, dx, vs, e, h, n, r⟩ => ⟨a, dx, vs, e, l.keep _ _ h nopen_ins, n, RepL.mono l r⟩
  | .pen k j, _, ⟨hT, a, c, ns, s, r, e, h, hc, n, h0, h1⟩ => by
    obtain ⟨s', r', h', q⟩ := l.pen a k j c s r h
    exact ⟨l.tb hT, a, c, ns, s', r', e, h', l.keep _ _ hc nopen_lst, n, (q h0 h1).1, (q h0 h1).2⟩
  | .val _, _, h => h
  | .at_ _ _, _, ⟨e, h⟩ => ⟨e, Rep.mono l h⟩
  | .tb _, _, ⟨e, h⟩ => ⟨l.tb e, Rep.mono l h⟩
  | .edk, _, ⟨a, e, h⟩ => ⟨a, e, l.keep _ _ h nopen_edk⟩
  | .dk _ _, _, ⟨a, vs, e, h, n, r⟩ => ⟨a, vs, e, l.keep _ _ h n, n, RepL.mono l r⟩
  | .kt _, _, ⟨a, e, h⟩ => ⟨a, e, l.keep _ _ h nopen_tup⟩
  | .dt _ _ _, _, ⟨a, vs, e, h, n, r⟩ => ⟨a, vs, e, h.imp (fun z => l.keep _ _ z nopen_dT) (fun z => ⟨z.1, let ⟨o, y⟩ := z.2; ⟨o, l.keep _ _ y nopen_frz⟩⟩), n, RepL.mono l r⟩
  | .lam _ _, _, ⟨f, d, e, h1, h2, n⟩ => ⟨f, d, e, l.keep _ _ h1 n, l.keep _ _ h2 nopen_code, n⟩
  | .scr _, _, ⟨hT, a, e, h⟩ => ⟨l.tb hT, a, e, l.seqL h⟩
theorem RepL.mono (l : Le G B G' B') : ∀ {ds : List D} {vs : List V}, RepL K G B ds vs → RepL K G' B' ds vs
  | [], _, h => h
  | _ :: _, _, ⟨v, r, e, h, hr⟩ => ⟨v, r, e, Rep.mono l h, RepL.mono l hr⟩
end
theorem RepL.length : ∀ {ds : List D} {vs : List V}, RepL K G B ds vs → ds.length = vs.length
  | [], _, h => by rw [show _ = _ from h]; rfl
  | _ :: _, _, ⟨v, r, e, h, hr⟩ => by rw [e, List.length_cons, List.length_cons, RepL.length hr]
theorem RepL.get : ∀ {ds : List D} {vs : List V} {i : Nat} {d : D}, RepL K G B ds vs → ds[i]? = some d → ∃ v, vs[i]? = some v ∧ Rep K G B d v
  | [], _, _, _, _, e => by simp at e
  | _ :: _, _, 0, d, ⟨v, r, e, h, hr⟩, q => by
    simp at q; subst q
    exact ⟨v, by rw [e]; rfl, h⟩
  | _ :: _, _, i + 1, d, ⟨v, r, e, h, hr⟩, q => by
    obtain ⟨u, h1, h2⟩ := RepL.get (i := i) hr (by simpa using q)
    exact ⟨u, by rw [e]; simpa using h1, h2⟩
theorem RepL.get' : ∀ {ds : List D} {vs : List V} {i : Nat} {v : V}, RepL K G B ds vs → vs[i]? = some v → ∃ d, ds[i]? = some d ∧ Rep K G B d v
  | [], _, i, _, h, e => by rw [show _ = _ from h] at e; simp at e
  | d :: _, _, 0, v, ⟨u, r, e, h, hr⟩, q => by
    rw [e] at q; simp at q; subst q
    exact ⟨d, rfl, h⟩
  | d :: _, _, i + 1, v, ⟨u, r, e, h, hr⟩, q => by
    rw [e] at q
    obtain ⟨w, h1, h2⟩ := RepL.get' (i := i) hr (by simpa using q)
    exact ⟨w, by simpa using h1, h2⟩
theorem RepL.append : ∀ {ds es : List D} {vs ws : List V}, RepL K G B ds vs → RepL K G B es ws → RepL K G B (ds ++ es) (vs ++ ws)
  | [], _, _, _, h, k => by rw [show _ = _ from h]; exact k
  | _ :: _, _, _, _, ⟨v, r, e, h, hr⟩, k => ⟨v, r ++ _, by rw [e]; rfl, h, RepL.append hr k⟩
theorem RepL.take : ∀ {ds : List D} {vs : List V} (n : Nat), RepL K G B ds vs → RepL K G B (ds.take n) (vs.take n)
  | _, _, 0, _ => by simp [RepL]
  | [], _, n + 1, h => by rw [show _ = _ from h]; simp [RepL]
  | _ :: _, _, n + 1, ⟨v, r, e, h, hr⟩ => ⟨v, r.take n, by rw [e]; rfl, h, RepL.take n hr⟩
theorem RepL.drop : ∀ {ds : List D} {vs : List V} (n : Nat), RepL K G B ds vs → RepL K G B (ds.drop n) (vs.drop n)
  | _, _, 0, h => h
  | [], _, n + 1, h => by rw [show _ = _ from h]; simp [RepL]
  | _ :: _, _, n + 1, ⟨v, r, e, h, hr⟩ => by rw [e]; exact RepL.drop n hr
theorem RepL.ints : ∀ ns : List Int, RepL K G B (ns.map D.int) (ns.map V.int)
  | [] => rfl
  | _ :: r => ⟨_, _, rfl, rfl, RepL.ints r⟩
end
/-- no table, no tuple -/
abbrev NTb (o : HO) : Prop := (∀ ps, o ≠ .tbl ps) ∧ ∀ xs, o ≠ .tup xs
/-- the heap H with its known part G, grown to H' with G' -/
structure Ext (G H : Hp) (B : Int) (G' H' : Hp) (B' : Int) : Prop where
  le : Le G B G' B'
  sub : Sub G' H'
  fr : ∀ a o, H a = some o → G a = none → NTb o → H' a = some o ∧ G' a = none
theorem Ext.refl {G H : Hp} {B : Int} (s : Sub G H) : Ext G H B G H B := ⟨Le.refl _ _, s, fun _ _ h n _ => ⟨h, n⟩⟩
theorem Ext.trans {G H G1 H1 G2 H2 : Hp} {B B1 B2 : Int} (a : Ext G H B G1 H1 B1) (b : Ext G1 H1 B1 G2 H2 B2) : Ext G H B G2 H2 B2 :=
  ⟨a.le.trans b.le, b.sub, fun c o h n t => b.fr c o (a.fr c o h n t).1 (a.fr c o h n t).2 t⟩
/-- a new known object -/
theorem Ext.new {G H : Hp} {B : Int} {p : Addr} {o : HO} (s : Sub G H) (h : H p = none) : Ext G H B (upd G p o) (upd H p o) B := by
  have g : G p = none := by
    cases e : G p with
    | none => rfl
    | some u => rw [s _ _ e] at h; cases h
  refine ⟨Le.of_sub (fun a u e => by rw [upd_ne (ne_of_none e g)]; exact e) (Int.le_refl _), fun a u e => ?_, fun a u e n _ => ?_⟩
  · by_cases q : a = p
    · subst q; rw [upd_same] at e ⊢; exact e
    · rw [upd_ne q] at e ⊢; exact s _ _ e
  · have q := ne_of_none e h
    rw [upd_ne q, upd_ne q]
    exact ⟨e, n⟩
/-- a tuple that stands may be known -/
theorem Ext.learn {G H : Hp} {B : Int} {p : Addr} {xs : List V} (s : Sub G H) (h : H p = some (.tup xs)) : Ext G H B (upd G p (.tup xs)) H B := by
  have sub : Sub G (upd G p (.tup xs)) := fun a o e => by
    by_cases q : a = p
    · subst q; rw [upd_same, ← s _ _ e, h]
    · rw [upd_ne q]; exact e
  refine ⟨Le.of_sub sub (Int.le_refl _), fun a o e => ?_, fun a o e n t => ⟨e, ?_⟩⟩
  · by_cases q : a = p
    · subst q; rw [upd_same] at e; cases e; exact h
    · rw [upd_ne q] at e; exact s _ _ e
  · rw [upd_ne (fun q => by subst q; rw [h] at e; cases e; exact t.2 _ rfl)]; exact n
/-- a new object that is not told -/
theorem Ext.hid {G H : Hp} {B : Int} {p : Addr} {o : HO} (s : Sub G H) (h : H p = none) : Ext G H B G (upd H p o) B :=
  ⟨Le.refl _ _, fun a u e => by rw [upd_ne (ne_of_none (s _ _ e) h)]; exact s _ _ e, fun a u e n _ => ⟨by rw [upd_ne (ne_of_none e h)]; exact e, n⟩⟩
def EnvR (K : PySem.W.Frag) (G : Hp) (B : Int) : List (Option D) → L2.St → Prop
  | [], σ => σ = []
  | o :: ρ, σ => ∃ x r, σ = x :: r ∧ (∀ d, o = some d → ∃ v, x = some v ∧ Rep K G B d v) ∧ EnvR K G B ρ r
section
variable {K : PySem.W.Frag} {G G' : Hp} {B B' : Int}
theorem EnvR.mono (l : Le G B G' B') : ∀ {ρ : List (Option D)} {σ : L2.St}, EnvR K G B ρ σ → EnvR K G' B' ρ σ
  | [], _, h => h
  | _ :: _, _, ⟨x, r, e, h, hr⟩ => ⟨x, r, e, fun d q => let ⟨v, h1, h2⟩ := h d q; ⟨v, h1, h2.mono l⟩, EnvR.mono l hr⟩
theorem EnvR.get : ∀ {ρ : List (Option D)} {σ : L2.St} {i : Nat} {d : D}, EnvR K G B ρ σ → ρ[i]? = some (some d) → ∃ v, σ[i]? = some (some v) ∧ Rep K G B d v
  | [], _, _, _, _, e => by simp at e
  | _ :: _, _, 0, d, ⟨x, r, e, h, hr⟩, q => by
    simp at q; subst q
    obtain ⟨v, h1, h2⟩ := h d rfl
    exact ⟨v, by rw [e, h1]; rfl, h2⟩
  | _ :: _, _, i + 1, d, ⟨x, r, e, h, hr⟩, q => by
    obtain ⟨v, h1, h2⟩ := EnvR.get (i := i) hr (by simpa using q)
    exact ⟨v, by rw [e]; simpa using h1, h2⟩
theorem EnvR.set {d : D} {v : V} (hv : Rep K G B d v) : ∀ {ρ : List (Option D)} {σ : L2.St} (i : Nat), EnvR K G B ρ σ → EnvR K G B (ρ.set i (some d)) (σ.set i (some v))
  | [], _, _, h => by rw [show _ = _ from h]; exact rfl
  | _ :: _, _, 0, ⟨x, r, e, h, hr⟩ => ⟨some v, r, by rw [e]; rfl, fun d' q => by cases q; exact ⟨v, rfl, hv⟩, hr⟩
  | _ :: _, _, i + 1, ⟨x, r, e, h, hr⟩ => ⟨x, r.set i (some v), by rw [e]; rfl, h, EnvR.set hv i hr⟩
theorem EnvR.wipe1 : ∀ {ρ : List (Option D)} {σ : L2.St} (i : Nat), EnvR K G B ρ σ → EnvR K G B (ρ.set i none) (σ.set i none)
  | [], _, _, h => by rw [show _ = _ from h]; exact rfl
  | _ :: _, _, 0, ⟨x, r, e, h, hr⟩ => ⟨none, r, by rw [e]; rfl, (fun d' q => by cases q), hr⟩
  | _ :: _, _, i + 1, ⟨x, r, e, h, hr⟩ => ⟨x, r.set i none, by rw [e]; rfl, h, EnvR.wipe1 i hr⟩
theorem EnvR.len : ∀ {ρ : List (Option D)} {σ : L2.St}, EnvR K G B ρ σ → ρ.length = σ.length
  | [], _, h => by rw [show _ = _ from h]; rfl
  | _ :: _, _, ⟨x, r, e, h, hr⟩ => by rw [e, List.length_cons, List.length_cons, EnvR.len hr]
theorem EnvR.of_vals : ∀ {ds : List D} {vs : List V} (n : Nat), RepL K G B ds vs → EnvR K G B (ds.map some ++ List.replicate n none) (vs.map some ++ List.replicate n none)
  | [], _, n, h => by
    rw [show _ = _ from h]
    show EnvR K G B (List.replicate n none) (List.replicate n none)
    induction n with
    | zero => exact rfl
    | succ n ih => exact ⟨none, List.replicate n none, rfl, (fun d q => by cases q), ih⟩
  | d :: _, _, n, ⟨v, r, e, h, hr⟩ => ⟨some v, r.map some ++ List.replicate n none, by rw [e]; rfl, fun d' q => by cases q; exact ⟨v, rfl, h⟩, EnvR.of_vals n hr⟩
end
def wipeD (ρ : List (Option D)) : List Nat → List (Option D)
  | [] => ρ
  | v :: vs => (wipeD ρ vs).set v none
theorem EnvR.wipe {K : PySem.W.Frag} {G : Hp} {B : Int} {ρ : List (Option D)} {σ : L2.St} (h : EnvR K G B ρ σ) : ∀ vs : List Nat, EnvR K G B (wipeD ρ vs) (L2.wipe σ vs)
  | [] => h
  | v :: vs => EnvR.wipe1 v (EnvR.wipe h vs)
def startD (N : List Str) (ds : List D) : List (Option D) := ds.map some ++ List.replicate (N.length - ds.length) none
/-- what is wanted of errors: class, fields, the pens' bound -/
abbrev EW := Addr → Option (List Str × List D) → Int → Prop
def XOk (K : PySem.W.Frag) (E : XK) (e : EW) (G H : Hp) (B : Int) : Prop := ∀ C f B' G' H', e C f B' → Ext G H B G' H' B' →
  match f with
  | none => E (.ref C) none H'
  | some (ns, ds) => ∀ dx vs, H' dx = some (.xd (ns.zip vs)) → ns.length = vs.length → RepL K G' B' ds vs → E (.ref C) (some dx) H'
theorem XOk.ext {K : PySem.W.Frag} {E : XK} {e : EW} {G H G1 H1 : Hp} {B B1 : Int} (x : XOk K E e G H B) (h : Ext G H B G1 H1 B1) : XOk K E e G1 H1 B1 := fun C f B' G' H' q h' => x C f B' G' H' q (h.trans h')
abbrev KD := D → Int → Prop
abbrev KL := List D → Int → Prop
abbrev KE' := List (Option D) → Int → Prop
def KOk (K : PySem.W.Frag) (k : KD) (Q : VK) (G H : Hp) (B : Int) : Prop := ∀ d v B' G' H', k d B' → Ext G H B G' H' B' → Rep K G' B' d v → Q v H'
theorem KOk.ext {K : PySem.W.Frag} {k : KD} {Q : VK} {G H G1 H1 : Hp} {B B1 : Int} (x : KOk K k Q G H B) (h : Ext G H B G1 H1 B1) : KOk K k Q G1 H1 B1 := fun d v B' G' H' q h' => x d v B' G' H' q (h.trans h')
def NOk (K : PySem.W.Frag) (k : KE') (Q : L2.St → Hp → Prop) (G H : Hp) (B : Int) : Prop := ∀ ρ σ B' G' H', k ρ B' → Ext G H B G' H' B' → EnvR K G' B' ρ σ → Q σ H'
theorem NOk.ext {K : PySem.W.Frag} {k : KE'} {Q : L2.St → Hp → Prop} {G H G1 H1 : Hp} {B B1 : Int} (x : NOk K k Q G H B) (h : Ext G H B G1 H1 B1) : NOk K k Q G1 H1 B1 := fun d v B' G' H' q h' => x d v B' G' H' q (h.trans h')
/-- an expression -/
def We (K : PySem.W.Frag) (E : XK) (e : EW) (t : TE) (ρ : List (Option D)) (B : Int) (k : KD) : Prop := ∀ σ H G Q, Sub G H → EnvR K G B ρ σ → XOk K E e G H B → KOk K k Q G H B → t σ H Q
/-- a test -/
def Wt (K : PySem.W.Frag) (E : XK) (e : EW) (t : TT) (ρ : List (Option D)) (B : Int) (k : Bool → Int → Prop) : Prop := ∀ σ H G (Q : Bool → Hp → Prop), Sub G H → EnvR K G B ρ σ → XOk K E e G H B → (∀ b B' G' H', k b B' → Ext G H B G' H' B' → Q b H') → t σ H Q
/-- arguments -/
def Wa (K : PySem.W.Frag) (E : XK) (e : EW) (t : TA) (ρ : List (Option D)) (B : Int) (k : KL) : Prop := ∀ σ H G (Q : List V → Hp → Prop), Sub G H → EnvR K G B ρ σ → XOk K E e G H B → (∀ ds vs B' G' H', k ds B' → Ext G H B G' H' B' → RepL K G' B' ds vs → Q vs H') → t σ H Q
structure KS where
  nx : KE' := fun _ _ => False
  rt : KD
  bk : KE' := fun _ _ => False
  ct : KE' := fun _ _ => False
structure EndsOk (K : PySem.W.Frag) (κ : KS) (Dn : Ends) (G H : Hp) (B : Int) : Prop where
  nx : NOk K κ.nx Dn.nx G H B
  rt : KOk K κ.rt Dn.rt G H B
  bk : NOk K κ.bk Dn.bk G H B
  ct : NOk K κ.ct Dn.ct G H B
theorem EndsOk.ext {K : PySem.W.Frag} {κ : KS} {Dn : Ends} {G H G1 H1 : Hp} {B B1 : Int} (x : EndsOk K κ Dn G H B) (h : Ext G H B G1 H1 B1) : EndsOk K κ Dn G1 H1 B1 := ⟨x.nx.ext h, x.rt.ext h, x.bk.ext h, x.ct.ext h⟩
/-- a statement -/
def Ws (K : PySem.W.Frag) (E : XK) (e : EW) (t : TS) (ρ : List (Option D)) (B : Int) (κ : KS) : Prop := ∀ σ H G Dn, Sub G H → EnvR K G B ρ σ → XOk K E e G H B → EndsOk K κ Dn G H B → t Dn σ H
/-- a target -/
def Wg (K : PySem.W.Frag) (g : TG) (d : D) (ρ : List (Option D)) (B : Int) (k : KE') : Prop := ∀ v σ H G Q, Sub G H → EnvR K G B ρ σ → Rep K G B d v → NOk K k Q G H B → g v σ H Q
def Wgs (K : PySem.W.Frag) (g : TGs) (ds : List D) (ρ : List (Option D)) (B : Int) (k : KE') : Prop := ∀ vs σ H G Q, Sub G H → EnvR K G B ρ σ → RepL K G B ds vs → NOk K k Q G H B → g vs σ H Q
section
variable {K : PySem.W.Frag} {E : XK} {e : EW} {ρ : List (Option D)} {B : Int} {k : KD} {κ : KS} {ta tb : TE} {t : TA}
theorem We.at {t : TE} {d : D} (h : ∀ σ H G, Sub G H → EnvR K G B ρ σ → ∃ v, Rep K G B d v ∧ ∀ Q : VK, Q v H → t σ H Q) (hk : k d B) : We K E e t ρ B k := fun σ H G Q s en x q => by
  obtain ⟨v, r, f⟩ := h σ H G s en
  exact f Q (q d v B G H hk (Ext.refl s) r)
theorem we_var {i : Nat} {d : D} (h : ρ[i]? = some (some d)) (hk : k d B) : We K E e (tVar i) ρ B k :=
  We.at (fun σ H G s en => let ⟨v, h1, h2⟩ := en.get h; ⟨v, h2, fun Q q => ⟨v, h1, q⟩⟩) hk
theorem we_int {i : Int} (hk : k (.int i) B) : We K E e (tC (.int i)) ρ B k := We.at (d := (.int i)) (fun σ H G s en => ⟨.int i, rfl, fun Q q => q⟩) hk
theorem we_bl {i : Bool} (hk : k (.bl i) B) : We K E e (tC (.bl i)) ρ B k := We.at (d := (.bl i)) (fun σ H G s en => ⟨.bl i, rfl, fun Q q => q⟩) hk
theorem we_str {i : Str} (hk : k (.str i) B) : We K E e (tC (.str i)) ρ B k := We.at (d := (.str i)) (fun σ H G s en => ⟨.str i, rfl, fun Q q => q⟩) hk
theorem we_non (hk : k .non B) : We K E e (tC .non) ρ B k := We.at (d := .non) (fun σ H G s en => ⟨.non, rfl, fun Q q => q⟩) hk
theorem We.imp {t : TE} {k' : KD} (h : We K E e t ρ B k) (f : ∀ d B', k d B' → k' d B') : We K E e t ρ B k' := fun σ H G Q s en x q => h σ H G Q s en x fun d v B' G' H' hk => q d v B' G' H' (f d B' hk)
/-- two values -/
def Ro (K : PySem.W.Frag) (E : XK) (e : EW) (r : R2) (a b : D) (B : Int) (k : KD) : Prop := ∀ x y H G Q, Sub G H → Rep K G B a x → Rep K G B b y → XOk K E e G H B → KOk K k Q G H B → r x y H Q
theorem we_op {r : R2} (h : We K E e ta ρ B fun a B1 => We K E e tb ρ B1 fun b B2 => Ro K E e r a b B2 k) : We K E e (tOp r ta tb) ρ B k := fun σ H G Q s en x q =>
  h σ H G _ s en x fun a v B1 G1 H1 h1 e1 r1 => h1 σ H1 G1 _ e1.sub (en.mono e1.le) (x.ext e1) fun b u B2 G2 H2 h2 e2 r2 =>
    h2 v u H2 G2 Q e2.sub (r1.mono e2.le) r2 (x.ext (e1.trans e2)) (q.ext (e1.trans e2))
theorem ro_i0 {f : Int → Int → Int} {i j : Int} (h : k (.int (f i j)) B) : Ro K E e (rI0 fun i j => V.int (f i j)) (.int i) (.int j) B k := fun x y H G Q s r1 r2 _ q =>
  ⟨i, j, r1, r2, q _ _ _ _ _ h (Ext.refl s) rfl⟩
theorem ro_b0 {f : Int → Int → Bool} {i j : Int} (h : k (.bl (f i j)) B) : Ro K E e (rI0 fun i j => V.bl (f i j)) (.int i) (.int j) B k := fun x y H G Q s r1 r2 _ q =>
  ⟨i, j, r1, r2, q _ _ _ _ _ h (Ext.refl s) rfl⟩
theorem ro_i {f : Int → Int → Int} {C : Int → Int → Prop} {i j : Int} (c : C i j) (h : k (.int (f i j)) B) : Ro K E e (rI C fun i j => V.int (f i j)) (.int i) (.int j) B k := fun x y H G Q s r1 r2 _ q =>
  ⟨i, j, r1, r2, c, q _ _ _ _ _ h (Ext.refl s) rfl⟩
theorem we_un {r : V → Hp → VK → Prop} (h : We K E e ta ρ B fun a B1 => ∀ x H G Q, Sub G H → Rep K G B1 a x → XOk K E e G H B1 → KOk K k Q G H B1 → r x H Q) : We K E e (tUn r ta) ρ B k := fun σ H G Q s en x q =>
  h σ H G _ s en x fun a v B1 G1 H1 h1 e1 r1 => h1 v H1 G1 Q e1.sub r1 (x.ext e1) (q.ext e1)
theorem we_neg {f : Int → Int} (h : We K E e ta ρ B fun a B1 => ∃ i, a = .int i ∧ k (.int (f i)) B1) : We K E e (tUn (rU fun i => V.int (f i)) ta) ρ B k :=
  we_un (h.imp fun a B1 ⟨i, ea, hk⟩ x H G Q s r xo q => by
    subst ea
    exact ⟨i, r, q _ _ _ _ _ hk (Ext.refl s) rfl⟩)
theorem wa_nil {k : KL} (h : k [] B) : Wa K E e tNil ρ B k := fun σ H G Q s en x q => q _ _ _ _ _ h (Ext.refl s) rfl
theorem wa_cons {k : KL} (h : We K E e ta ρ B fun a B1 => Wa K E e t ρ B1 fun ds B2 => k (a :: ds) B2) : Wa K E e (tCons ta t) ρ B k := fun σ H G Q s en x q =>
  h σ H G _ s en x fun a v B1 G1 H1 h1 e1 r1 => h1 σ H1 G1 _ e1.sub (en.mono e1.le) (x.ext e1) fun ds vs B2 G2 H2 h2 e2 r2 => q _ _ _ _ _ h2 (e1.trans e2) ⟨v, vs, rfl, r1.mono e2.le, r2⟩
theorem we_tup (h : Wa K E e t ρ B fun ds B1 => ds.length ≤ sizeLine ∧ k (.tup ds) B1) : We K E e (tTup t) ρ B k := fun σ H G Q s en x q =>
  h σ H G _ s en x fun ds vs B1 G1 H1 ⟨h0, h1⟩ e1 r1 => ⟨by rw [← r1.length]; exact h0, fun p np => q _ _ _ _ _ h1 (e1.trans (Ext.new e1.sub np)) ⟨p, vs, rfl, SqT.of upd_same, r1.mono (Ext.new (B := B1) e1.sub np).le⟩⟩
theorem we_lst (h : Wa K E e t ρ B fun ds B1 => ds.length ≤ sizeLine ∧ k (.lst ds) B1) : We K E e (tLst t) ρ B k := fun σ H G Q s en x q =>
  h σ H G _ s en x fun ds vs B1 G1 H1 ⟨h0, h1⟩ e1 r1 => ⟨by rw [← r1.length]; exact h0, fun p np => q _ _ _ _ _ h1 (e1.trans (Ext.new e1.sub np)) ⟨p, vs, rfl, upd_same, r1.mono (Ext.new (B := B1) e1.sub np).le⟩⟩
theorem we_fld {f : Str} (h : We K E e ta ρ B fun d B1 => ∃ C ns ds d', d = .ins C ns ds ∧ Cls K C ∧ NoAttr K C f ∧ (ns.zip ds).lookup f = some d' ∧ k d' B1) : We K E e (tFld K ta f) ρ B k := fun σ H G Q s en x q =>
  h σ H G _ s en x fun d v B1 G1 H1 ⟨C, ns, ds, d', ed, c, n, l, h1⟩ e1 r1 => by
    subst ed
    obtain ⟨a, dx, vs, rfl, ha, hl, hr⟩ := r1
    have z : ∀ (ns : List Str) (ds : List D) (vs : List V), RepL K G1 B1 ds vs → (ns.zip ds).lookup f = some d' → ∃ v, (ns.zip vs).lookup f = some v ∧ Rep K G1 B1 d' v := by
      intro ns
      induction ns with
      | nil => intro ds vs _ h; simp at h
      | cons n r ih =>
        intro ds vs hr h
        cases ds with
        | nil => simp at h
        | cons d0 ds =>
          obtain ⟨v0, vr, rfl, h0, h1⟩ := hr
          rw [List.zip_cons_cons, List.lookup_cons] at h ⊢
          cases hq : (f == n) with
          | true => rw [hq] at h; exact ⟨v0, rfl, by cases h; exact h0⟩
          | false => rw [hq] at h; exact ih ds vr h1 h
    obtain ⟨v, lv, rv⟩ := z ns ds vs hr l
    exact ⟨a, C, dx, _, v, rfl, e1.sub _ _ ha, c, n, lv, q _ _ _ _ _ h1 e1 rv⟩
theorem we_ifE {c : TT} (h : Wt K E e c ρ B fun b B1 => (b = true → We K E e ta ρ B1 k) ∧ (b = false → We K E e tb ρ B1 k)) : We K E e (tIf c ta tb) ρ B k := fun σ H G Q s en x q =>
  h σ H G _ s en x fun b B1 G1 H1 h1 e1 => by
    cases b with
    | true => exact h1.1 rfl σ H1 G1 Q e1.sub (en.mono e1.le) (x.ext e1) (q.ext e1)
    | false => exact h1.2 rfl σ H1 G1 Q e1.sub (en.mono e1.le) (x.ext e1) (q.ext e1)
theorem we_and (h : We K E e ta ρ B fun d B1 => ∃ b, d = .bl b ∧ (b = true → We K E e tb ρ B1 k) ∧ (b = false → k (.bl false) B1)) : We K E e (tAndV ta tb) ρ B k := fun σ H G Q s en x q =>
  h σ H G _ s en x fun d v B1 G1 H1 ⟨b, ed, h1, h2⟩ e1 r1 => by
    subst ed
    refine ⟨b, r1, ?_⟩
    cases b with
    | true => exact h1 rfl σ H1 G1 Q e1.sub (en.mono e1.le) (x.ext e1) (q.ext e1)
    | false => exact q _ _ _ _ _ (h2 rfl) e1 rfl
def isNon : D → Bool
  | .non => true
  | .val v => decide (v = .non)
  | .at_ _ d => isNon d
  | .tb d => isNon d
  | _ => false
theorem Rep.isNon {G : Hp} {B : Int} : ∀ {d : D} {v : V}, Rep K G B d v → decide (v = V.non) = isNon d
  | .non, _, h => by rw [show _ = _ from h]; rfl
  | .bl _, _, h => by rw [show _ = _ from h]; rfl
  | .int _, _, h => by rw [show _ = _ from h]; rfl
  | .str _, _, h => by rw [show _ = _ from h]; rfl
  | .tup _, _, ⟨a, vs, e, _⟩ => by rw [e]; rfl
  | .lst _, _, ⟨a, vs, e, _⟩ => by rw [e]; rfl
  | .ins _ _ _, _, ⟨a, dx, vs, e, _⟩ => by rw [e]; rfl
  | .pen _ _, _, ⟨_, a, _, _, _, _, e, _⟩ => by rw [e]; rfl
  | .scr _, _, ⟨_, a, e, _⟩ => by rw [e]; rfl
  | .lam _ _, _, ⟨f, d, e, _⟩ => by rw [e]; rfl
  | .at_ _ d, _, ⟨_, h⟩ => Rep.isNon (d := d) h
  | .tb d, _, ⟨_, h⟩ => Rep.isNon (d := d) h
  | .edk, _, ⟨a, e, _⟩ => by rw [e]; rfl
  | .kt _, _, ⟨a, e, _⟩ => by rw [e]; rfl
  | .dt _ _ _, _, ⟨a, vs, e, _⟩ => by rw [e]; rfl
  | .dk _ _, _, ⟨a, vs, e, _⟩ => by rw [e]; rfl
  | .val _, _, h => by rw [show _ = _ from h]; rfl
theorem we_isN (h : We K E e ta ρ B fun d B1 => k (.bl (isNon d)) B1) : We K E e (tIsN ta) ρ B k := fun σ H G Q s en x q =>
  h σ H G _ s en x fun d v B1 G1 H1 h1 e1 r1 => by
    rw [r1.isNon]
    exact q _ _ _ _ _ h1 e1 rfl
variable {kb : Bool → Int → Prop} {c d : TT}
theorem wt_val (h : We K E e ta ρ B fun d B1 => ∃ b, d = .bl b ∧ kb b B1) : Wt K E e (tB ta) ρ B kb := fun σ H G Q s en x q =>
  h σ H G _ s en x fun d v B1 G1 H1 ⟨b, ed, h1⟩ e1 r1 => by
    subst ed
    exact ⟨b, r1, q _ _ _ _ h1 e1⟩
theorem wt_test (h : We K E e ta ρ B fun d B1 => ∃ b, d = .bl b ∧ kb b B1) : Wt K E e (tTest ta) ρ B kb := fun σ H G Q s en x q =>
  h σ H G _ s en x fun d v B1 G1 H1 ⟨b, ed, h1⟩ e1 r1 => by
    subst ed
    exact ⟨b, r1, q _ _ _ _ h1 e1⟩
theorem wt_not (h : Wt K E e c ρ B fun b B1 => kb (!b) B1) : Wt K E e (tNot c) ρ B kb := fun σ H G Q s en x q =>
  h σ H G _ s en x fun b B1 G1 H1 h1 e1 => q _ _ _ _ h1 e1
theorem wt_and (h : Wt K E e c ρ B fun b B1 => (b = true → Wt K E e d ρ B1 kb) ∧ (b = false → kb false B1)) : Wt K E e (tAnd c d) ρ B kb := fun σ H G Q s en x q =>
  h σ H G _ s en x fun b B1 G1 H1 h1 e1 => by
    cases b with
    | true => exact h1.1 rfl σ H1 G1 Q e1.sub (en.mono e1.le) (x.ext e1) fun b B2 G2 H2 h2 e2 => q _ _ _ _ h2 (e1.trans e2)
    | false => exact q _ _ _ _ (h1.2 rfl) e1
theorem wt_or (h : Wt K E e c ρ B fun b B1 => (b = true → kb true B1) ∧ (b = false → Wt K E e d ρ B1 kb)) : Wt K E e (tOr c d) ρ B kb := fun σ H G Q s en x q =>
  h σ H G _ s en x fun b B1 G1 H1 h1 e1 => by
    cases b with
    | true => exact q _ _ _ _ (h1.1 rfl) e1
    | false => exact h1.2 rfl σ H1 G1 Q e1.sub (en.mono e1.le) (x.ext e1) fun b B2 G2 H2 h2 e2 => q _ _ _ _ h2 (e1.trans e2)
variable {ts us : TS}
theorem ws_ret (h : We K E e ta ρ B κ.rt) : Ws K E e (tRet ta) ρ B κ := fun σ H G Dn s en x q => h σ H G _ s en x q.rt
theorem ws_next (h : κ.nx ρ B) : Ws K E e tNext ρ B κ := fun σ H G Dn s en x q => q.nx _ _ _ _ _ h (Ext.refl s) en
theorem ws_seq (h : Ws K E e ts ρ B { κ with nx := fun ρ' B' => Ws K E e us ρ' B' κ }) : Ws K E e (tSeq ts us) ρ B κ := fun σ H G Dn s en x q =>
  h σ H G _ s en x ⟨fun ρ' σ' B' G' H' h1 e1 en1 => h1 σ' H' G' Dn e1.sub en1 (x.ext e1) (q.ext e1), q.rt, q.bk, q.ct⟩
theorem ws_drop (h : We K E e ta ρ B fun _ B1 => κ.nx ρ B1) : Ws K E e (tDrop ta) ρ B κ := fun σ H G Dn s en x q =>
  h σ H G _ s en x fun d v B1 G1 H1 h1 e1 r1 => q.nx _ _ _ _ _ h1 e1 (en.mono e1.le)
theorem ws_if (h : Wt K E e c ρ B fun b B1 => (b = true → Ws K E e ts ρ B1 κ) ∧ (b = false → Ws K E e us ρ B1 κ)) : Ws K E e (tIfS c ts us) ρ B κ := fun σ H G Dn s en x q =>
  h σ H G _ s en x fun b B1 G1 H1 h1 e1 => by
    cases b with
    | true => exact h1.1 rfl σ H1 G1 Dn e1.sub (en.mono e1.le) (x.ext e1) (q.ext e1)
    | false => exact h1.2 rfl σ H1 G1 Dn e1.sub (en.mono e1.le) (x.ext e1) (q.ext e1)
theorem ws_set {i : Nat} (h : We K E e ta ρ B fun d B1 => κ.nx (ρ.set i (some d)) B1) : Ws K E e (tAsg ta (gName i)) ρ B κ := fun σ H G Dn s en x q =>
  h σ H G _ s en x fun d v B1 G1 H1 h1 e1 r1 => q.nx _ _ _ _ _ h1 e1 (EnvR.set r1 i (en.mono e1.le))
theorem ws_asg {g : TG} (h : We K E e ta ρ B fun d B1 => Wg K g d ρ B1 κ.nx) : Ws K E e (tAsg ta g) ρ B κ := fun σ H G Dn s en x q =>
  h σ H G _ s en x fun d v B1 G1 H1 h1 e1 r1 => h1 v σ H1 G1 _ e1.sub (en.mono e1.le) r1 (q.nx.ext e1)
theorem ws_par {i j : Nat} (h : Wa K E e t ρ B fun ds B1 => ∃ a b, ds = [a, b] ∧ κ.nx ((ρ.set i (some a)).set j (some b)) B1) : Ws K E e (tPar i j t) ρ B κ := fun σ H G Dn s en x q =>
  h σ H G _ s en x fun ds vs B1 G1 H1 ⟨a, b, ed, h1⟩ e1 r1 => by
    subst ed
    obtain ⟨v, _, rfl, ra, u, _, rfl, rb, rfl⟩ := r1
    exact ⟨v, u, rfl, q.nx _ _ _ _ _ h1 e1 (EnvR.set rb j (EnvR.set ra i (en.mono e1.le)))⟩
theorem wg_name {i : Nat} {d : D} {k : KE'} (h : k (ρ.set i (some d)) B) : Wg K (gName i) d ρ B k := fun v σ H G Q s en r q => q _ _ _ _ _ h (Ext.refl s) (EnvR.set r i en)
theorem wgs_nil {k : KE'} (h : k ρ B) : Wgs K gNil [] ρ B k := fun vs σ H G Q s en r q => ⟨r, q _ _ _ _ _ h (Ext.refl s) en⟩
theorem wgs_cons {g : TG} {gs : TGs} {d : D} {ds : List D} {k : KE'} (h : Wg K g d ρ B fun ρ1 B1 => Wgs K gs ds ρ1 B1 k) : Wgs K (gCons g gs) (d :: ds) ρ B k := fun vs σ H G Q s en r q => by
  obtain ⟨v, w, rfl, r1, r2⟩ := r
  exact ⟨v, w, rfl, h v σ H G _ s en r1 fun ρ1 σ1 B1 G1 H1 h1 e1 en1 => h1 w σ1 H1 G1 Q e1.sub en1 (r2.mono e1.le) (q.ext e1)⟩
theorem wg_tup {n : Nat} {gs : TGs} {ds : List D} {k : KE'} (hn : ds.length = n) (h : Wgs K gs ds ρ B k) : Wg K (gTup K n gs) (.tup ds) ρ B k := fun v σ H G Q s en r q => by
  obtain ⟨a, vs, rfl, ha, hr⟩ := r
  exact ⟨a, vs, rfl, (Le.of_sub (B := B) (B' := B) s (Int.le_refl _)).seqT ha, by rw [← hr.length]; exact hn, h vs σ H G Q s en hr q⟩
end
end AW

set_option linter.all false
set_option maxRecDepth 100000
set_option maxHeartbeats 4000000
namespace AW
open PySem PySem.Spec PyProof.Rows L2
variable [Tbs]
abbrev Pr := List D → Int → KD → EW → Prop
def noE : EW := fun _ _ _ => False
def spD (K : PySem.W.Frag) (pr : Pr) : Sp := fun vs H Q E => ∃ G ds B k e, Sub G H ∧ RepL K G B ds vs ∧ pr ds B k e ∧ KOk K k Q G H B ∧ XOk K E e G H B
theorem XOk.no {K : PySem.W.Frag} {E : XK} {G H : Hp} {B : Int} : XOk K E noE G H B := fun _ _ _ _ _ h => h.elim
theorem spD_len {K : PySem.W.Frag} {pr : Pr} {n : Nat} (h : ∀ ds B k e, pr ds B k e → ds.length = n) : ∀ vs H Q E, spD K pr vs H Q E → vs.length = n := fun vs H Q E ⟨G, ds, B, k, e, _, r, p, _⟩ => by
  rw [← r.length]
  exact h _ _ _ _ p
section
variable {K : PySem.W.Frag} {E E' : XK} {e : EW} {ρ : List (Option D)} {B : Int} {k : KD} {κ : KS} {ta tb : TE} {t : TA} {pr : Pr}
theorem we_call (h : Wa K E e t ρ B fun ds B1 => pr ds B1 k noE) : We K E e (tCall (spD K pr) [] E' t) ρ B k := fun σ H G Q s en x q =>
  h σ H G _ s en x fun ds vs B1 G1 H1 h1 e1 r1 => by
    show spD K pr (vs ++ []) H1 Q E'
    rw [List.append_nil]
    exact ⟨G1, ds, B1, k, noE, e1.sub, r1, h1, q.ext e1, XOk.no⟩
theorem we_callE (h : Wa K E e t ρ B fun ds B1 => pr ds B1 k e) : We K E e (tCall (spD K pr) [] E t) ρ B k := fun σ H G Q s en x q =>
  h σ H G _ s en x fun ds vs B1 G1 H1 h1 e1 r1 => by
    show spD K pr (vs ++ []) H1 Q E
    rw [List.append_nil]
    exact ⟨G1, ds, B1, k, e, e1.sub, r1, h1, q.ext e1, x.ext e1⟩
theorem lookup_zip_none {m : Str} : ∀ {ns : List Str} {vs : List V}, (∀ n ∈ ns, (m == n) = false) → (ns.zip vs).lookup m = none
  | [], _, _ => by simp
  | n :: ns, [], _ => by simp
  | n :: ns, v :: vs, h => by
    rw [List.zip_cons_cons, List.lookup_cons, h n (List.mem_cons_self ..)]
    exact lookup_zip_none fun q hq => h q (List.mem_cons_of_mem _ hq)
theorem we_meth {C : Addr} {m : Str} (h : We K E e ta ρ B fun d B1 => ∃ ns fs, d = .ins C ns fs ∧ (∀ n ∈ ns, (m == n) = false) ∧ Wa K E e t ρ B1 fun ds B2 => pr (d :: ds) B2 k noE) : We K E e (tMeth C m (spD K pr) [] E' ta t) ρ B k := fun σ H G Q s en x q =>
  h σ H G _ s en x fun d v B1 G1 H1 ⟨ns, fs, ed, nm, h1⟩ e1 r1 => by
    subst ed
    obtain ⟨a, dx, vs, rfl, ha, hl, hr⟩ := id r1
    refine ⟨a, dx, _, rfl, e1.sub _ _ ha, lookup_zip_none nm, ?_⟩
    refine h1 σ H1 G1 _ e1.sub (en.mono e1.le) (x.ext e1) fun ds ws B2 G2 H2 h2 e2 r2 => ?_
    show spD K pr (.ref a :: (ws ++ [])) H2 Q E'
    rw [List.append_nil]
    exact ⟨G2, .ins C ns fs :: ds, B2, k, noE, e2.sub, ⟨_, _, rfl, r1.mono e2.le, r2⟩, h2, (q.ext e1).ext e2, XOk.no⟩
/-- the body runs -/
theorem run_body {N : List Str} {ts : TS} {G H : Hp} {ds : List D} {vs : List V} {Q : VK} (hs : Sub G H) (hr : RepL K G B ds vs) (hk : KOk K k Q G H B) (hx : XOk K E e G H B) (hN : startD N ds = ρ) (h : Ws K E e ts ρ B { nx := fun _ B' => k .non B', rt := k }) :
    ts { nx := fun _ H' => Q .non H', rt := Q } (L2.start N vs) H := by
  subst hN
  refine h _ H G _ hs ?_ hx ⟨fun ρ' σ' B' G' H' h1 e1 _ => hk _ _ _ _ _ h1 e1 rfl, hk, fun _ _ _ _ _ h => h.elim, fun _ _ _ _ _ h => h.elim⟩
  unfold startD L2.start
  rw [hr.length]
  exact EnvR.of_vals _ hr
/-- an __init__'s promise: from the arguments, the fields -/
def spI (K : PySem.W.Frag) (C : Addr) (ns : List Str) (pr : List D → Int → (List D → Int → Prop) → EW → Prop) : Sp := fun vs H Q E => ∃ p dx ws G ds B k e, vs = .ref p :: ws ∧ H p = some (.ins C dx []) ∧ G p = none ∧ G dx = none ∧ dx ≠ p ∧ H dx = some (.own p) ∧
  Sub G H ∧ RepL K G B ds ws ∧ pr ds B k e ∧
  (∀ fs us B' G' H', k fs B' → Le G B G' B' → Sub G' H' → (∀ a o, H a = some o → G a = none → a ≠ p → NTb o → H' a = some o ∧ G' a = none) → G' p = none → H' p = some (.ins C dx (ns.zip us)) → ns.length = us.length → RepL K G' B' fs us → Q .non H') ∧
  XOk K E e G H B
theorem we_make {C : Addr} {ns : List Str} {pi : List D → Int → (List D → Int → Prop) → EW → Prop} (h : Wa K E e t ρ B fun ds B1 => pi ds B1 (fun fs B2 => k (.ins C ns fs) B2) noE) : We K E e (tMake C (spI K C ns pi) [] E' t) ρ B k := fun σ H G Q s en x q =>
  h σ H G _ s en x fun ds vs B1 G1 H1 h1 e1 r1 => by
    show ∀ p dx, H1 p = none → H1 dx = none → dx ≠ p → _
    intro p dx np nd ne
    rw [List.append_nil]
    have gp : G1 p = none := by
      cases z : G1 p with
      | none => rfl
      | some u => rw [e1.sub _ _ z] at np; cases np
    have gd : G1 dx = none := by
      cases z : G1 dx with
      | none => rfl
      | some u => rw [e1.sub _ _ z] at nd; cases nd
    refine ⟨p, dx, vs, G1, ds, B1, _, noE, rfl, upd_same, gp, gd, ne, by rw [upd_ne ne, upd_same], fun a o z => ?_, r1, h1, fun fs us B2 G2 H2 hk le sub fr g2 h2 hl hr => ⟨rfl, ?_⟩, XOk.no⟩
    · have := e1.sub _ _ z
      rw [upd_ne (ne_of_none this np), upd_ne (ne_of_none this nd)]
      exact this
    · have e2 : Ext G H B (upd G2 p (.ins C dx (ns.zip us))) H2 B2 := by
        refine ⟨(e1.le.trans le).trans (Le.of_sub (fun a o z => by rw [upd_ne (ne_of_none z g2)]; exact z) (Int.le_refl _)), fun a o z => ?_, fun a o z n t => ?_⟩
        · by_cases hq : a = p
          · subst hq; rw [upd_same] at z; cases z; exact h2
          · rw [upd_ne hq] at z; exact sub _ _ z
        · obtain ⟨z1, z2⟩ := e1.fr a o z n t
          have hq : a ≠ p := ne_of_none z1 np
          obtain ⟨z3, z4⟩ := fr a o (by rw [upd_ne hq, upd_ne (ne_of_none z1 nd)]; exact z1) z2 hq t
          exact ⟨z3, by rw [upd_ne hq]; exact z4⟩
      exact q _ _ _ _ _ hk e2 ⟨p, dx, us, rfl, upd_same, hl, hr.mono (Le.of_sub (fun a o z => by rw [upd_ne (ne_of_none z g2)]; exact z) (Int.le_refl _))⟩
mutual
def py : D → PyData
  | .non => .none
  | .bl b => .bool b
  | .int i => .int i
  | .str x => .str x
  | .tup ds => .tuple (pyL ds)
  | .lst ds => .list (pyL ds)
  | .ins _ _ _ => .none
  | .pen _ _ => .none
  | .scr _ => .none
  | .val _ => .none
  | .lam _ _ => .none
  | .at_ _ d => py d
  | .tb d => py d
  | .edk => .none
  | .dk _ _ => .none
  | .kt _ => .none
  | .dt _ _ _ => .none
def pyL : List D → List PyData
  | [] => []
  | d :: ds => py d :: pyL ds
end
mutual
def pyOk : D → Bool
  | .tup ds => pyOkL ds
  | .lst ds => pyOkL ds
  | .ins _ _ _ => false
  | .pen _ _ => false
  | .scr _ => false
  | .val _ => false
  | .lam _ _ => false
  | .at_ _ d => pyOk d
  | .tb d => pyOk d
  | .edk => false
  | .dk _ _ => false
  | .kt _ => false
  | .dt _ _ _ => false
  | _ => true
def pyOkL : List D → Bool
  | [] => true
  | d :: ds => pyOk d && pyOkL ds
end
mutual
theorem Rep.dp {G H : Hp} {B : Int} (s : Sub G H) : ∀ {d : D} {v : V}, Rep K G B d v → pyOk d = true → Dp K H v (py d)
  | .non, _, h, _ => by rw [show _ = _ from h]; exact .non
  | .bl _, _, h, _ => by rw [show _ = _ from h]; exact .bl _
  | .int _, _, h, _ => by rw [show _ = _ from h]; exact .int _
  | .str _, _, h, _ => by rw [show _ = _ from h]; exact .str _
  | .tup _, _, ⟨a, vs, e, h, hr⟩, o => by rw [e]; exact .tup ((Le.of_sub (B := B) (B' := B) s (Int.le_refl _)).seqT h) (RepL.dp s hr o)
  | .lst _, _, ⟨a, vs, e, h, hr⟩, o => by rw [e]; exact .lst (SqL.of (s _ _ h)) (RepL.dp s hr o)
  | .ins _ _ _, _, _, o => nomatch o
  | .pen _ _, _, _, o => nomatch o
  | .scr _, _, _, o => nomatch o
  | .val _, _, _, o => nomatch o
  | .lam _ _, _, _, o => nomatch o
  | .at_ _ d, _, ⟨_, h⟩, o => Rep.dp s (d := d) h o
  | .tb d, _, ⟨_, h⟩, o => Rep.dp s (d := d) h o
  | .edk, _, _, o => nomatch o
  | .dk _ _, _, _, o => nomatch o
  | .kt _, _, _, o => nomatch o
  | .dt _ _ _, _, _, o => nomatch o
theorem RepL.dp {G H : Hp} {B : Int} (s : Sub G H) : ∀ {ds : List D} {vs : List V}, RepL K G B ds vs → pyOkL ds = true → DpAll K H vs (pyL ds)
  | [], _, h, _ => by rw [show _ = _ from h]; exact .nil
  | d :: ds, _, ⟨v, r, e, h, hr⟩, o => by
    rw [e]
    have o' : (pyOk d && pyOkL ds) = true := o
    rw [Bool.and_eq_true] at o'
    exact .cons (Rep.dp s h o'.1) (RepL.dp s hr o'.2)
end
theorem ro_eqD {a b : D} (oa : pyOk a = true) (ob : pyOk b = true) (sa : SeqAt.shaped (py a) = true) (sb : SeqAt.shaped (py b) = true) (h : k (.bl (PyData.eqv (py a) (py b))) B) : Ro K E e (rEqD K) a b B k := fun x y H G Q s r1 r2 _ q =>
  ⟨_, _, Rep.dp s r1 oa, Rep.dp s r2 ob, sa, sb, q _ _ _ _ _ h (Ext.refl s) rfl⟩
theorem ro_neD {a b : D} (oa : pyOk a = true) (ob : pyOk b = true) (sa : SeqAt.shaped (py a) = true) (sb : SeqAt.shaped (py b) = true) (h : k (.bl (!PyData.eqv (py a) (py b))) B) : Ro K E e (rNeD K) a b B k := fun x y H G Q s r1 r2 _ q =>
  ⟨_, _, Rep.dp s r1 oa, Rep.dp s r2 ob, sa, sb, q _ _ _ _ _ h (Ext.refl s) rfl⟩
theorem ro_eqI {i j : Int} (h : k (.bl (decide (i = j))) B) : Ro K E e rEq (.int i) (.int j) B k := fun x y H G Q s r1 r2 _ q => by
  rw [show x = _ from r1, show y = _ from r2]
  have e1 : decide (V.int i = V.int j) = decide (i = j) := by
    by_cases z : i = j
    · subst z; simp
    · rw [decide_eq_false z, decide_eq_false fun w => z (V.int.inj w)]
  refine ⟨rfl, ?_⟩
  rw [e1]
  exact q _ _ _ _ _ h (Ext.refl s) rfl
theorem ro_neI {i j : Int} (h : k (.bl (!decide (i = j))) B) : Ro K E e rNe (.int i) (.int j) B k := fun x y H G Q s r1 r2 _ q => by
  rw [show x = _ from r1, show y = _ from r2]
  have e1 : decide (V.int i = V.int j) = decide (i = j) := by
    by_cases z : i = j
    · subst z; simp
    · rw [decide_eq_false z, decide_eq_false fun w => z (V.int.inj w)]
  refine ⟨rfl, ?_⟩
  rw [e1]
  exact q _ _ _ _ _ h (Ext.refl s) rfl
theorem ro_eqS {i j : Str} (h : k (.bl (decide (i = j))) B) : Ro K E e rEq (.str i) (.str j) B k := fun x y H G Q s r1 r2 _ q => by
  rw [show x = _ from r1, show y = _ from r2]
  have e1 : decide (V.str i = V.str j) = decide (i = j) := by
    by_cases z : i = j
    · subst z; simp
    · rw [decide_eq_false z, decide_eq_false fun w => z (V.str.inj w)]
  refine ⟨rfl, ?_⟩
  rw [e1]
  exact q _ _ _ _ _ h (Ext.refl s) rfl
theorem RepL.ixN {G : Hp} {ds : List D} {vs : List V} {i : Int} {d : D} (r : RepL K G B ds vs) (h : atI ds i = some d) : ∃ v, atI vs i = some v ∧ Rep K G B d v := by
  unfold atI at h ⊢
  rw [← r.length]
  cases z : L2.ixN ds.length i with
  | none => rw [z] at h; cases h
  | some j =>
    rw [z] at h
    exact r.get h
theorem ro_ixT {ds : List D} {i : Int} {d : D} (h : atI ds i = some d) (hk : k d B) : Ro K E e (rIxT K) (.tup ds) (.int i) B k := fun x y H G Q s r1 r2 _ q => by
  obtain ⟨a, vs, rfl, ha, hr⟩ := r1
  obtain ⟨v, h1, h2⟩ := hr.ixN h
  exact ⟨a, vs, i, v, rfl, r2, (Le.of_sub (B := B) (B' := B) s (Int.le_refl _)).seqT ha, h1, q _ _ _ _ _ hk (Ext.refl s) h2⟩
theorem ro_ixL {ds : List D} {i : Int} {d : D} (h : atI ds i = some d) (hk : k d B) : Ro K E e (rIxL K) (.lst ds) (.int i) B k := fun x y H G Q s r1 r2 _ q => by
  obtain ⟨a, vs, rfl, ha, hr⟩ := r1
  obtain ⟨v, h1, h2⟩ := hr.ixN h
  exact ⟨a, vs, i, v, rfl, r2, SqL.of (s _ _ ha), h1, q _ _ _ _ _ hk (Ext.refl s) h2⟩
theorem we_cb {r : List V → Hp → VK → Prop} (h : Wa K E e t ρ B fun ds B1 => ∀ vs H G Q, Sub G H → RepL K G B1 ds vs → KOk K k Q G H B1 → r vs H Q) : We K E e (tCB r t) ρ B k := fun σ H G Q s en x q =>
  h σ H G _ s en x fun ds vs B1 G1 H1 h1 e1 r1 => h1 vs H1 G1 Q e1.sub r1 (q.ext e1)
theorem cb_fun1 {f : Int → Int} {r : List V → Hp → VK → Prop} (hr : ∀ i H Q, Q (.int (f i)) H → r [.int i] H Q) {ds : List D} (h : ∃ i, ds = [.int i] ∧ k (.int (f i)) B) : ∀ vs H G Q, Sub G H → RepL K G B ds vs → KOk K k Q G H B → r vs H Q := fun vs H G Q s r1 q => by
  obtain ⟨i, rfl, hk⟩ := h
  obtain ⟨v, _, rfl, rv, rfl⟩ := r1
  rw [show v = _ from rv]
  exact hr i H Q (q _ _ _ _ _ hk (Ext.refl s) rfl)
theorem we_abs (h : Wa K E e t ρ B fun ds B1 => ∃ i, ds = [.int i] ∧ k (.int (if i < 0 then -i else i)) B1) : We K E e (tCB (fun xs H Q => ∃ i, xs = [.int i] ∧ Q (.int (if i < 0 then -i else i)) H) t) ρ B k :=
  we_cb fun σ H G Q s en x q => h σ H G Q s en x fun ds vs B1 G1 H1 h1 e1 r1 => q ds vs B1 G1 H1 (cb_fun1 (f := fun i => if i < 0 then -i else i) (fun i H Q q => ⟨i, rfl, q⟩) h1) e1 r1
theorem we_lenL (h : Wa K E e t ρ B fun ds B1 => ∃ xs, ds = [.lst xs] ∧ k (.int xs.length) B1) : We K E e (tCB (fun xs H Q => ∃ p ys, xs = [.ref p] ∧ (SqL K H p ys ∨ SqT K H p ys) ∧ Q (.int ys.length) H) t) ρ B k :=
  we_cb fun σ H G Q s en x q => h σ H G Q s en x fun ds vs B1 G1 H1 ⟨xs, ed, h1⟩ e1 r1 => q ds vs B1 G1 H1 (fun ws H2 G2 Q2 s2 r2 q2 => by
    subst ed
    obtain ⟨v, _, rfl, ⟨a, us, rfl, ha, hr⟩, rfl⟩ := r2
    exact ⟨a, us, rfl, .inl (SqL.of (s2 _ _ ha)), by rw [← hr.length]; exact q2 _ _ _ _ _ h1 (Ext.refl s2) rfl⟩) e1 r1
variable {wi : TI} {g : TG} {tbody : TS} {tl : TE}
theorem for_range_D {n : Nat} {G H : Hp} {σ : L2.St} {Dn : Ends} (s : Sub G H) (en : EnvR K G B ρ σ) (x : XOk K E e G H B) (q : EndsOk K κ Dn G H B) (I : Nat → KE') (lo : Int) (i0 : I 0 ρ B)
    (hs : ∀ (i : Nat) ρ' B', i < n → I i ρ' B' → Wg K g (.int (lo + i)) ρ' B' fun ρ2 B2 => Ws K E e tbody ρ2 B2 { nx := I (i + 1), rt := κ.rt, bk := κ.nx, ct := I (i + 1) }) (hd : ∀ ρ' B', I n ρ' B' → κ.nx ρ' B') :
    ∃ W : Nat → Nat → L2.St → Hp → Prop, (∃ m, W 0 m σ H) ∧ ∀ i m σ H, W i m σ H →
      ((Itr lo n).stop i H ∧ Dn.nx σ H) ∨ ((Itr lo n).go i H ∧ ∃ N : L2.St → Hp → Prop, (∀ σ' H', N σ' H' → ∃ m', m' < m ∧ W (i + 1) m' σ' H') ∧ ∀ x H', (Itr lo n).yld i H x H' → g x σ H' fun σ2 H2 => tbody { Dn with nx := N, ct := N, bk := Dn.nx } σ2 H2) := by
  refine for_range (fun i σ' H' => ∃ ρ' B' G', I i ρ' B' ∧ Ext G H B G' H' B' ∧ EnvR K G' B' ρ' σ') ⟨ρ, B, G, i0, Ext.refl s, en⟩ ?_ ?_
  · rintro i σ' H' hi ⟨ρ', B', G', hI, e2, en2⟩
    refine hs i ρ' B' hi hI _ σ' H' G' _ e2.sub en2 rfl fun ρ2 σ2 B2 G2 H2 h2 e3 en3 => ?_
    have eA := e2.trans e3
    exact h2 σ2 H2 G2 _ e3.sub en3 (x.ext eA) ⟨fun ρ3 σ3 B3 G3 H3 h3 e4 en4 => ⟨ρ3, B3, G3, h3, (e2.trans e3).trans e4, en4⟩, q.rt.ext eA, q.nx.ext eA, fun ρ3 σ3 B3 G3 H3 h3 e4 en4 => ⟨ρ3, B3, G3, h3, (e2.trans e3).trans e4, en4⟩⟩
  · rintro σ' H' ⟨ρ', B', G', hI, e2, en2⟩
    exact q.nx _ _ _ _ _ (hd _ _ hI) e2 en2
theorem ws_for_range1 (h : Wa K E e t ρ B fun ds B1 => ∃ j : Int, ds = [.int j] ∧ -(2 ^ 62) ≤ j ∧ j < 2 ^ 62 ∧ ∃ I : Nat → KE', I 0 ρ B1 ∧ (∀ (i : Nat) ρ' B', i < j.toNat → I i ρ' B' → Wg K g (.int (0 + i)) ρ' B' fun ρ2 B2 => Ws K E e tbody ρ2 B2 { nx := I (i + 1), rt := κ.rt, bk := κ.nx, ct := I (i + 1) }) ∧ ∀ ρ' B', I j.toNat ρ' B' → κ.nx ρ' B') :
    Ws K E e (tFor (iRng1 t) g tbody) ρ B κ := fun σ H G Dn s en x q =>
  h σ H G _ s en x fun ds vs B1 G1 H1 ⟨j, ed, j0, j1, I, i0, hs, hd⟩ e1 r1 => by
    subst ed
    obtain ⟨v, _, rfl, rv, rfl⟩ := r1
    rw [show v = _ from rv]
    exact ⟨j, rfl, j0, j1, for_range_D e1.sub (en.mono e1.le) (x.ext e1) (q.ext e1) I 0 i0 hs hd⟩
variable {tt : TT} {te : TE} {E1 : XK}
theorem wt_yes {kb : Bool → Int → Prop} (h : kb true B) : Wt K E e tYes ρ B kb := fun σ H G Q s en x q => q _ _ _ _ h (Ext.refl s)
/-- the state of a comprehension whose list stands at L -/
def LcOk (K : PySem.W.Frag) (I : List D → Int → Prop) (L : Addr) (G1 H1 : Hp) (B1 : Int) (H' : Hp) : Prop := ∃ out B' G' acc, I out B' ∧ Ext G1 H1 B1 G' H' B' ∧ G' L = none ∧ H' L = some (.lst acc) ∧ RepL K G' B' out acc
theorem lc_step {I : Nat → List D → Int → Prop} {L : Addr} {G1 H1 : Hp} {B1 : Int} {σ : L2.St} {sl i : Nat} {d : D} {v : V} {H' : Hp} (nL : H1 L = none) (sub1 : Sub G1 H1) (en : EnvR K G1 B1 ρ σ) (h : LcOk K (fun out B => out.length ≤ i ∧ I i out B) L G1 H1 B1 H') (hi : i < sizeLine) (rv : Rep K G1 B1 d v)
    (hs : ∀ out B', I i out B' → Wt K E1 noE tt ((ρ.set sl none).set sl (some d)) B' fun b B3 => (b = true → We K E1 noE te ((ρ.set sl none).set sl (some d)) B3 fun y B4 => I (i + 1) (out ++ [y]) B4) ∧ (b = false → I (i + 1) out B3)) :
    gName sl v (wipe σ [sl]) H' fun σ2 H2 => wipe σ2 [sl] = wipe σ [sl] ∧ tt σ2 H2 fun b H3 => if b = true then te σ2 H3 fun y H4 => ∃ acc, H4 L = some (.lst acc) ∧ acc.length < sizeLine ∧ LcOk K (fun out B => out.length ≤ i + 1 ∧ I (i + 1) out B) L G1 H1 B1 (upd H4 L (.lst (acc ++ [y]))) else LcOk K (fun out B => out.length ≤ i + 1 ∧ I (i + 1) out B) L G1 H1 B1 H3 := by
  obtain ⟨out, B', G', acc, ⟨hl, hI⟩, e2, gL, hL, hr⟩ := h
  refine ⟨?_, ?_⟩
  · show ((σ.set sl none).set sl (some v)).set sl none = σ.set sl none
    rw [List.set_set, List.set_set]
  · have en2 : EnvR K G' B' ((ρ.set sl none).set sl (some d)) ((σ.set sl none).set sl (some v)) := EnvR.set (rv.mono e2.le) sl (EnvR.wipe1 sl (en.mono e2.le))
    refine hs out B' hI _ H' G' _ e2.sub en2 XOk.no fun b B3 G3 H3 h3 e3 => ?_
    cases b with
    | true =>
      rw [if_pos rfl]
      refine h3.1 rfl _ H3 G3 _ e3.sub (en2.mono e3.le) XOk.no fun y w B4 G4 H4 h4 e4 r4 => ?_
      obtain ⟨z1, z2⟩ := (e3.trans e4).fr L _ hL gL ⟨(fun _ z => nomatch z), fun _ z => nomatch z⟩
      refine ⟨acc, z1, by rw [← hr.length]; omega, out ++ [y], B4, G4, acc ++ [w], ⟨by rw [List.length_append, List.length_singleton]; omega, h4⟩, ?_, z2, upd_same, (hr.mono (e3.trans e4).le).append ⟨w, [], rfl, r4, rfl⟩⟩
      have eA := e2.trans (e3.trans e4)
      refine ⟨eA.le, fun a o z => ?_, fun a o z n t => ?_⟩
      · have : a ≠ L := fun q => by rw [q, z2] at z; cases z
        rw [upd_ne this]; exact eA.sub _ _ z
      · have : a ≠ L := ne_of_none z nL
        rw [upd_ne this]
        exact eA.fr _ _ z n t
    | false =>
      rw [if_neg Bool.false_ne_true]
      obtain ⟨z1, z2⟩ := e3.fr L _ hL gL ⟨(fun _ z => nomatch z), fun _ z => nomatch z⟩
      exact ⟨out, B3, G3, acc, ⟨Nat.le_succ_of_le hl, h3.2 rfl⟩, e2.trans e3, z2, z1, hr.mono e3.le⟩
theorem lc_end {I : List D → Int → Prop} {L : Addr} {G H G1 H1 : Hp} {B1 : Int} {Q : VK} {H' : Hp} (e1 : Ext G H B G1 H1 B1) (nL : H1 L = none) (h : LcOk K I L G1 H1 B1 H') (hd : ∀ out B', I out B' → k (.lst out) B') (q : KOk K k Q G H B) : Q (.ref L) H' := by
  obtain ⟨out, B', G', acc, hI, e2, gL, hL, hr⟩ := h
  have le : Le G' B' (upd G' L (.lst acc)) B' := Le.of_sub (fun a o z => by rw [upd_ne (ne_of_none z gL)]; exact z) (Int.le_refl _)
  refine q (.lst out) _ B' (upd G' L (.lst acc)) H' (hd _ _ hI) (e1.trans ⟨e2.le.trans le, fun a o z => ?_, fun a o z n t => ?_⟩) ⟨L, acc, rfl, upd_same, hr.mono le⟩
  · by_cases w : a = L
    · subst w; rw [upd_same] at z; cases z; exact hL
    · rw [upd_ne w] at z; exact e2.sub _ _ z
  · have w : a ≠ L := ne_of_none z nL
    rw [upd_ne w]
    exact e2.fr _ _ z n t
theorem lc_start {I : List D → Int → Prop} {L : Addr} {G1 H1 : Hp} {B1 : Int} (s : Sub G1 H1) (nL : H1 L = none) (h : I [] B1) : LcOk K I L G1 H1 B1 (upd H1 L (.lst [])) := by
  have g : G1 L = none := by
    cases z : G1 L with
    | none => rfl
    | some u => rw [s _ _ z] at nL; cases nL
  exact ⟨[], B1, G1, [], h, Ext.hid s nL, g, upd_same, rfl⟩
theorem LcOk.kept {I : List D → Int → Prop} {L : Addr} {G1 H1 : Hp} {B1 : Int} {H' : Hp} {a : Addr} {o : HO} (h : LcOk K I L G1 H1 B1 H') (ha : G1 a = some o) (n : ¬ IsPen o) : H' a = some o := by
  obtain ⟨out, B', G', acc, hI, e2, gL, hL, hr⟩ := h
  exact e2.sub _ _ (e2.le.keep _ _ ha n)
theorem we_lc_list {sl : Nat} (h : We K E e tl ρ B fun d B1 => ∃ ds, d = .lst ds ∧ ds.length < sizeLine ∧ ∃ I : Nat → List D → Int → Prop, I 0 [] B1 ∧
    (∀ i x out B', ds[i]? = some x → I i out B' → Wt K E1 noE tt ((ρ.set sl none).set sl (some x)) B' fun b B3 => (b = true → We K E1 noE te ((ρ.set sl none).set sl (some x)) B3 fun y B4 => I (i + 1) (out ++ [y]) B4) ∧ (b = false → I (i + 1) out B3)) ∧
    ∀ out B', out.length ≤ ds.length → I ds.length out B' → k (.lst out) B') : We K E e (tLc (iList K tl) (gName sl) tt te [sl]) ρ B k := fun σ H G Q s en x q =>
  h σ H G _ s en x fun d v B1 G1 H1 ⟨ds, ed, dl, I, i0, hs, hd⟩ e1 r1 => by
    subst ed
    obtain ⟨a, vs, rfl, ha, hr⟩ := r1
    refine ⟨a, rfl, ⟨vs, SqL.of (e1.sub _ _ ha)⟩, fun L nL => ?_⟩
    refine lc_list (xs := vs) (fun i H' => LcOk K (fun out B => out.length ≤ i ∧ I i out B) L G1 H1 B1 H') (lc_start e1.sub nL ⟨Nat.le_refl _, i0⟩) (fun i H' _ z => SqL.of (z.kept ha nopen_lst)) ?_ ?_
    · intro i y H' hi hz
      obtain ⟨dx, hdx, rx⟩ := hr.get' hi
      have hlt : i < ds.length := (List.getElem?_eq_some_iff.mp hdx).1
      exact lc_step nL e1.sub (en.mono e1.le) hz (by omega) rx (fun out B' hI => hs i dx out B' hdx hI)
    · intro H' hz
      refine lc_end e1 nL hz (fun out B' hI => ?_) q
      rw [← hr.length] at hI
      exact hd out B' hI.1 hI.2
end
end AW

set_option linter.all false
set_option maxRecDepth 100000
set_option maxHeartbeats 4000000
namespace AW
open PySem PySem.Spec PyProof.Rows L2
variable [Tbs]
def CDivG (_ j : Int) : Prop := j ≠ 0 ∧ j.natAbs.log2 < 9000
section
variable {X : Cx}
/-- // by any number of up to 9000 bits -/
theorem op_fdivG : OpR X (binaryOp .FloorDiv) (rI CDivG fun i j => .int (i.fdiv j)) := opI fun _ _ _ _ _ _ _ hc q => floordiv_int hc.1 q (.inl (PyProof.noPylong_of_log2 hc.2))
end
section
variable {K : PySem.W.Frag} {E E' : XK} {e : EW} {ρ : List (Option D)} {B : Int} {k : KD} {κ : KS} {ta tb : TE} {t : TA} {pr : Pr}
/-- a statement, what holds behind it, the rest -/
theorem ws_cut {ts us : TS} (J : KE') (h1 : Ws K E e ts ρ B { κ with nx := J }) (h2 : ∀ ρ' B', J ρ' B' → Ws K E e us ρ' B' κ) : Ws K E e (tSeq ts us) ρ B κ :=
  ws_seq fun σ H G Dn s en x q => h1 σ H G Dn s en x ⟨fun ρ' σ' B' G' H' z => q.nx ρ' σ' B' G' H' (h2 ρ' B' z), q.rt, q.bk, q.ct⟩
/-- list + list -/
theorem ro_catL {xs ys : List D} (hl : xs.length + ys.length ≤ sizeLine) (h : k (.lst (xs ++ ys)) B) : Ro K E e rCat (.lst xs) (.lst ys) B k := fun x y H G Q s r1 r2 _ q => by
  obtain ⟨a, vs, rfl, ha, hr⟩ := r1
  obtain ⟨b, ws, rfl, hb, hw⟩ := r2
  exact ⟨a, b, vs, ws, rfl, rfl, s _ _ ha, s _ _ hb, by rw [← hr.length, ← hw.length]; exact hl, fun p np =>
    q _ _ _ _ _ h (Ext.new s np) ⟨p, _, rfl, upd_same, (hr.append hw).mono (Ext.new (B := B) s np).le⟩⟩
end
mutual
/-- data without a dict is equal to itself -/
theorem eqv_self : ∀ d : D, PyData.eqv (py d) (py d) = true
  | .non => rfl
  | .bl b => by cases b <;> rfl
  | .int i => by simp [py, PyData.eqv]
  | .str x => by simp [py, PyData.eqv]
  | .tup ds => by show PyData.eqvAll (pyL ds) (pyL ds) = true; exact eqvAll_self ds
  | .lst ds => by show PyData.eqvAll (pyL ds) (pyL ds) = true; exact eqvAll_self ds
  | .ins _ _ _ => rfl
  | .pen _ _ => rfl
  | .scr _ => rfl
  | .val _ => rfl
  | .lam _ _ => rfl
  | .at_ _ d => eqv_self d
  | .tb d => eqv_self d
  | .edk => rfl
  | .dk _ _ => rfl
  | .kt _ => rfl
  | .dt _ _ _ => rfl
theorem eqvAll_self : ∀ ds : List D, PyData.eqvAll (pyL ds) (pyL ds) = true
  | [] => rfl
  | d :: ds => by
    show (PyData.eqv (py d) (py d) && PyData.eqvAll (pyL ds) (pyL ds)) = true
    rw [eqv_self d, eqvAll_self ds]
    rfl
end
abbrev t3 (x y a : Int) : D := .tup [.int x, .int y, .int a]
abbrev t2 (x y : Int) : D := .tup [.int x, .int y]
theorem shaped_of {d : D} (h1 : (py d).canLay0 = true) (h2 : decide ((py d).depth ≤ 64) = true) : SeqAt.shaped (py d) = true := by
  unfold SeqAt.shaped
  rw [h1, h2]; rfl
end AW

set_option linter.all false
set_option maxRecDepth 100000
set_option maxHeartbeats 4000000
namespace AW
open PySem PySem.Spec PyProof.Rows L2
variable [Tbs]
section
variable {K : PySem.W.Frag} {E E1 : XK} {e : EW} {ρ : List (Option D)} {B : Int} {k : KD} {tl te : TE} {sl : Nat}
theorem map_step {f : D → D} {ds : List D} {i : Nat} {x : D} (h : ds[i]? = some x) : (ds.map f).take i ++ [f x] = (ds.map f).take (i + 1) := by
  have hm : (ds.map f)[i]? = some (f x) := by rw [List.getElem?_map, h]; rfl
  rw [List.take_add_one, hm]
  rfl
theorem we_lc_mapL {f : D → D} (h : We K E e tl ρ B fun d B1 => ∃ ds, d = .lst ds ∧ ds.length < sizeLine ∧ (∀ x ∈ ds, ∀ k' : KD, k' (f x) B1 → We K E1 noE te ((ρ.set sl none).set sl (some x)) B1 k') ∧ k (.lst (ds.map f)) B1) :
    We K E e (tLc (iList K tl) (gName sl) tYes te [sl]) ρ B k := we_lc_list (E1 := E1) (h.imp fun d B1 ⟨ds, ed, hl, hs, hk⟩ => ⟨ds, ed, hl, fun i out B' => out = (ds.map f).take i ∧ B' = B1, ⟨rfl, rfl⟩, fun i x out B' hi ⟨eo, eB⟩ => wt_yes ⟨fun _ => by
      subst eB
      exact hs x (List.mem_of_getElem? hi) _ ⟨by rw [eo]; exact map_step hi, rfl⟩, fun h => nomatch h⟩, fun out B' _ ⟨eo, eB⟩ => by
      rw [eo, eB, List.take_of_length_le (by rw [List.length_map]; exact Nat.le_refl _)]
      exact hk⟩)
end
/-- what the statement asks of the law -/
def spLaw (K : PySem.W.Frag) : Sp := fun vs H Q E => ∃ (a : Addr) (ns : List Int), vs = [.ref a] ∧ SqL K H a (ns.map V.int) ∧ ns.length ≤ 63 ∧ LamX.Tabs Tbs.T H ∧ ∀ H', Q (.bl true) H'
open Classical in
theorem spLaw_imp {K : PySem.W.Frag} {pr : Pr} (h : ∀ (ns : List Int) (k : KD), ns.length ≤ 63 → (∀ B', k (.bl true) B') → pr [.scr ns] 0 k noE) : ∀ vs H Q E, spLaw K vs H Q E → spD K pr vs H Q E := fun vs H Q E ⟨a, ns, ev, hS, hl, hT, kq⟩ => by
  subst ev
  let G : Hp := fun b => if b = a ∨ (∃ ps, H b = some (.tbl ps)) ∨ (∃ q, H b = some (LamX.CodeO b q)) then H b else none
  have gt : ∀ b, (b = a ∨ (∃ ps, H b = some (.tbl ps)) ∨ (∃ q, H b = some (LamX.CodeO b q))) → G b = H b := fun b h => if_pos h
  have ga : G a = H a := gt a (.inl rfl)
  refine ⟨G, [.scr ns], 0, fun d _ => d = .bl true, noE, fun b o z => ?_, ⟨_, [], rfl, ⟨fun p hp => ?_, a, rfl, ?_⟩, rfl⟩, h ns _ hl (fun _ => rfl), fun d v B' G' H' hd _ hr => ?_, XOk.no⟩
  · by_cases hb : b = a ∨ (∃ ps, H b = some (.tbl ps)) ∨ (∃ q, H b = some (LamX.CodeO b q))
    · rw [gt b hb] at z
      exact z
    · have z2 : G b = none := if_neg hb
      rw [z2] at z
      cases z
  · obtain ⟨ps, h1, h2, h3⟩ := hT p hp
    refine ⟨ps, by rw [gt _ (.inr (.inl ⟨ps, h1⟩))]; exact h1, h2, fun pos cv hc => ?_⟩
    obtain ⟨c, e1, e2⟩ := h3 pos cv hc
    exact ⟨c, e1, by rw [gt _ (.inr (.inr ⟨_, e2⟩))]; exact e2⟩
  · rcases hS with (hS | ⟨o, hS⟩) | hS
    · exact .inl (.inl (ga.trans hS))
    · exact .inl (.inr ⟨o, ga.trans hS⟩)
    · exact .inr hS
  · subst hd
    rw [show v = _ from hr]
    exact kq H'
end AW

set_option linter.all false
set_option maxRecDepth 100000
set_option maxHeartbeats 4000000
namespace AW
open PySem PySem.Spec PyProof.Rows L2 LamX
variable [Tbs]
def tabD : D → Bool
  | .pen _ _ => true
  | .scr _ => true
  | .tb _ => true
  | _ => false
section
variable {K : PySem.W.Frag} {E E' : XK} {e : EW} {ρ : List (Option D)} {B : Int} {k : KD} {κ : KS}
theorem Rep.tabs {G : Hp} : ∀ {d : D} {v : V}, Rep K G B d v → tabD d = true → Tabs Tbs.T G
  | .non, _, _, h => nomatch h
  | .bl _, _, _, h => nomatch h
  | .int _, _, _, h => nomatch h
  | .str _, _, _, h => nomatch h
  | .tup _, _, _, h => nomatch h
  | .lst _, _, _, h => nomatch h
  | .ins _ _ _, _, _, h => nomatch h
  | .val _, _, _, h => nomatch h
  | .lam _ _, _, _, h => nomatch h
  | .at_ _ _, _, _, h => nomatch h
  | .tb _, _, h, _ => h.1
  | .edk, _, _, h => nomatch h
  | .dk _ _, _, _, h => nomatch h
  | .kt _, _, _, h => nomatch h
  | .dt _ _ _, _, _, h => nomatch h
  | .pen _ _, _, h, _ => h.1
  | .scr _, _, h, _ => h.1
theorem grown_ext {P : Addr} {q : Str} {d f : Addr} {G H H1 : Hp} {o : HO} (s : Sub G H) (tG : Tabs Tbs.T G) (hm : (P, q) ∈ Tbs.T) (hu : ∀ p ∈ Tbs.T, p.1 = P → p.2 = q) (gr : Grown P q d H H1) (nf : H1 f = none) :
    ∃ G', Ext G H B (upd G' f o) (upd H1 f o) B ∧ upd G' f o d = some (LamX.CodeO d q) := by
  obtain ⟨psG, gP, gt, ga⟩ := tG _ hm
  have hP := s _ _ gP
  have gnone : ∀ a, H a = none → G a = none := fun a e => by
    cases z : G a with
    | none => rfl
    | some o => rw [s _ _ z] at e; cases e
  rcases gr with ⟨ps, pos, e1, e2, e3⟩ | ⟨ps, pos, e1, e2, e3⟩
  · subst e3
    rw [hP] at e1
    cases e1
    obtain ⟨c, ec, gc⟩ := ga pos _ e2
    cases ec
    exact ⟨G, Ext.new (B := B) (o := o) s nf, by rw [upd_ne (ne_of_none gc (gnone _ nf))]; exact gc⟩
  · subst e3
    rw [hP] at e1
    cases e1
    have nd := gnone _ e2
    have hdf : d ≠ f := fun z => by subst z; rw [upd_same] at nf; cases nf
    have t2 := tabs_grow (pos := pos) tG hm hu gP nd
    have st : Ext G H B (upd (upd G P (.tbl (psG ++ #[rawInt pos.line, rawInt pos.col, .ref d]))) d (CodeO d q)) (upd (upd H P (.tbl (psG ++ #[rawInt pos.line, rawInt pos.col, .ref d]))) d (CodeO d q)) B := by
      have at_ : ∀ a o, G a = some o → (∀ ps, o ≠ .tbl ps) → upd (upd G P (.tbl (psG ++ #[rawInt pos.line, rawInt pos.col, .ref d]))) d (CodeO d q) a = some o := fun a o z n => by
        rw [upd_ne (ne_of_none z nd), upd_ne (fun w => by subst w; rw [gP] at z; exact n _ (Option.some.inj z).symm)]
        exact z
      refine ⟨⟨Int.le_refl _, fun a o z n => at_ a o z fun ps w => n (.inr ⟨ps, w⟩), fun a k l c z r w => ⟨z, r, at_ a _ w (fun _ w => nomatch w), fun x y => ⟨x, y⟩⟩, fun _ => t2⟩, fun a o z => ?_, fun a o z n nt => ?_⟩
      · by_cases h1 : a = d
        · subst h1; rw [upd_same] at z ⊢; exact z
        · rw [upd_ne h1] at z ⊢
          by_cases h2 : a = P
          · subst h2; rw [upd_same] at z ⊢; exact z
          · rw [upd_ne h2] at z ⊢; exact s _ _ z
      · have h1 : a ≠ d := ne_of_none z e2
        have h2 : a ≠ P := fun w => by subst w; rw [hP] at z; exact nt.1 _ (Option.some.inj z).symm
        rw [upd_ne h1, upd_ne h2, upd_ne h1, upd_ne h2]
        exact ⟨z, n⟩
    exact ⟨_, st.trans (Ext.new (B := B) (o := o) st.sub nf), by rw [upd_ne hdf, upd_same]⟩
/-- what is made of a kept lambda's call: tl, its reading over data; eR and kR, what comes of it -/
structure TTok (K : PySem.W.Frag) (TT : (XK → Hp → VK → Prop) → Hp → VK → Prop) (eR : KD → EW) (kR : KD → KD) : Prop where
  go : ∀ (tl : XK → Hp → VK → Prop) (k : KD) (G H : Hp) (B : Int) (Q : VK), Sub G H → KOk K k Q G H B → (∀ Ech Q', XOk K Ech (eR k) G H B → KOk K (kR k) Q' G H B → tl Ech H Q') → TT tl H Q
/-- a lambda made and handed on at once -/
theorem we_lamarg {i : Nat} {d0 : D} {P : Addr} {q : Str} {mk : Addr → Addr → HO} {TT : (XK → Hp → VK → Prop) → Hp → VK → Prop} {t : XK → TE} {eR : KD → EW} {kR : KD → KD} (tt : TTok K TT eR kR) (hi : ρ[i]? = some (some d0)) (ht : tabD d0 = true) (hm : (P, q) ∈ Tbs.T) (hu : ∀ p ∈ Tbs.T, p.1 = P → p.2 = q)
    (h : ∀ Ech, We K Ech (eR k) (t Ech) ρ B (kR k)) : We K E e (tLamA Tbs.T P q mk TT t) ρ B k := fun σ H G Q s en x kq => by
  obtain ⟨v0, _, r0⟩ := en.get hi
  have tG : Tabs Tbs.T G := r0.tabs ht
  refine ⟨tG.ext s, fun f d H1 gr nf => ?_⟩
  obtain ⟨G', ex, kd⟩ := grown_ext (B := B) (o := mk f d) s tG hm hu gr nf
  exact tt.go _ k _ _ B Q ex.sub (kq.ext ex) fun Ech Q' xo ko => h Ech σ _ _ Q' ex.sub (en.mono ex.le) xo ko
end
end AW

set_option linter.all false
set_option maxRecDepth 100000
set_option maxHeartbeats 4000000
namespace AW
open PySem PySem.Spec PyProof.Rows L2
variable [Tbs]
section
variable {K : PySem.W.Frag} {E E' : XK} {e : EW} {ρ : List (Option D)} {B : Int} {k : KD} {κ : KS} {ta tb : TE} {t : TA} {pr : Pr}
def DSam : Eqv := fun x y _ => ∃ a, x = .ref a ∧ y = .ref a
def DOd : Eqv := fun x y H => DFlat x y H ∨ DSam x y H
inductive Alike : D → D → Prop where
  | non : Alike .non .non
  | bl (b : Bool) : Alike (.bl b) (.bl b)
  | int (i : Int) : Alike (.int i) (.int i)
  | str (x : Str) : Alike (.str x) (.str x)
  | at_ (a : Addr) (d d' : D) : Alike (.at_ (.ref a) d) (.at_ (.ref a) d')
theorem Alike.od {G H : Hp} {d d' : D} {v v' : V} (h : Alike d d') (r : Rep K G B d v) (r' : Rep K G B d' v') : DOd v v' H := by
  cases h with
  | non => rw [show v = _ from r, show v' = _ from r']; exact .inl ⟨rfl, rfl, rfl⟩
  | bl b => rw [show v = _ from r, show v' = _ from r']; exact .inl ⟨rfl, rfl, by cases b <;> rfl⟩
  | int i => rw [show v = _ from r, show v' = _ from r']; exact .inl ⟨rfl, rfl, by simp [eqV]⟩
  | str x => rw [show v = _ from r, show v' = _ from r']; exact .inl ⟨rfl, rfl, by simp [eqV]⟩
  | at_ a d d' => exact .inr ⟨a, r.1, r'.1⟩
inductive AlikeL : List D → List D → Prop where
  | nil : AlikeL [] []
  | cons {d d' : D} {ds ds' : List D} (h : Alike d d') (r : AlikeL ds ds') : AlikeL (d :: ds) (d' :: ds')
theorem AlikeL.len {ds ds' : List D} (h : AlikeL ds ds') : ds.length = ds'.length := by
  induction h with
  | nil => rfl
  | cons _ _ ih => rw [List.length_cons, List.length_cons, ih]
end
end AW

set_option linter.all false
set_option maxRecDepth 100000
set_option maxHeartbeats 4000000
namespace AW
open PySem PySem.Spec PyProof.Rows L2
variable [Tbs]
def tOr2E (t u : TE) : TE := fun σ H Q => t σ H Q ∨ u σ H Q
theorem pe_or2 {X : Cx} {e : Expr} {t u : TE} (h1 : PE X e t) (h2 : PE X e u) : PE X e (tOr2E t u) := ⟨fun pins s σ H Q I h => h.elim (h1.run pins s σ H Q I) (h2.run pins s σ H Q I)⟩
section
variable {K : PySem.W.Frag} {E E' E1 : XK} {e : EW} {ρ : List (Option D)} {B : Int} {k : KD} {κ : KS} {ta tb tl te : TE} {t : TA} {us : TS} {pr : Pr} {i sl : Nat} {ds : List D}
theorem we_orL (h : We K E e ta ρ B k) : We K E e (tOr2E ta tb) ρ B k := fun σ H G Q s en x q => .inl (h σ H G Q s en x q)
theorem we_orR (h : We K E e tb ρ B k) : We K E e (tOr2E ta tb) ρ B k := fun σ H G Q s en x q => .inr (h σ H G Q s en x q)
end
end AW

set_option linter.all false
set_option maxRecDepth 100000
set_option maxHeartbeats 4000000
namespace AW
open PySem PySem.Spec PyProof.Rows L2
variable [Tbs]
section
variable {K : PySem.W.Frag} {E E' E1 : XK} {e : EW} {ρ : List (Option D)} {B : Int} {k : KD} {κ : KS} {ta tb tl te ty : TE} {tt : TT} {t : TA} {us : TS} {pr : Pr} {i sl : Nat} {ds : List D}
/-- a text's letter -/
theorem ro_ixS {z : Str} {i : Int} {c : _} (hz : z.length ≤ sizeLine) (h : atI z.cps.toList i = some c) (hk : k (.str ⟨#[c]⟩) B) : Ro K E e rIxS (.str z) (.int i) B k := fun x y H G Q s r1 r2 _ q =>
  ⟨z, i, c, r1, r2, hz, h, q _ _ _ _ _ hk (Ext.refl s) rfl⟩
end
end AW

set_option linter.all false
set_option maxRecDepth 100000
set_option maxHeartbeats 4000000
namespace AW
open PySem PySem.Spec PyProof.Rows L2
variable [Tbs]
section
variable {K : PySem.W.Frag} {E E' : XK} {e : EW} {ρ : List (Option D)} {B : Int} {k : KD} {κ : KS} {ta tb tf : TE} {t : TA} {pr : Pr}
end
end AW

set_option linter.all false
set_option maxRecDepth 100000
set_option maxHeartbeats 4000000
namespace AW
open PySem PySem.Spec PyProof.Rows L2
variable [Tbs]
section
variable {K : PySem.W.Frag} {E E' : XK} {e : EW} {ρ : List (Option D)} {B : Int} {k : KD} {κ : KS} {ta tb tf : TE} {t : TA} {pr : Pr}
end
end AW

set_option linter.all false
set_option maxRecDepth 100000
set_option maxHeartbeats 4000000
namespace AW
open PySem PySem.Spec PyProof.Rows L2
variable [Tbs]
/-- tables at unlike places -/
theorem tab_uniq {l : List (Addr × Str)} (h : (l.map Prod.fst).Nodup) {a : Addr} {q : Str} (hm : (a, q) ∈ l) : ∀ p ∈ l, p.1 = a → p.2 = q := by
  induction l with
  | nil => cases hm
  | cons x r ih =>
    rw [List.map_cons, List.nodup_cons] at h
    intro p hp e
    rcases List.mem_cons.mp hp with rfl | hp
    · rcases List.mem_cons.mp hm with z | hm
      · rw [← z]
      · exact absurd (List.mem_map.mpr ⟨_, hm, e.symm⟩) h.1
    · rcases List.mem_cons.mp hm with z | hm
      · subst z
        exact absurd (show (a, q).fst ∈ List.map Prod.fst r from List.mem_map.mpr ⟨p, (by assumption), e⟩) h.1
      · exact ih h.2 hm p hp e
theorem Wt.imp {K : PySem.W.Frag} {E : XK} {e : EW} {c : TT} {ρ : List (Option D)} {B : Int} {k k' : Bool → Int → Prop} (h : Wt K E e c ρ B k) (f : ∀ b B', k b B' → k' b B') : Wt K E e c ρ B k' :=
  fun σ H G Q s en x q => h σ H G Q s en x fun b B' G' H' hk => q b B' G' H' (f b B' hk)
end AW

set_option linter.all false
set_option maxRecDepth 100000
set_option maxHeartbeats 4000000
namespace AW
open PySem PySem.Spec PyProof.Rows L2 RZ
variable [Tbs]
section
variable {K : PySem.W.Frag} {E E' E1 : XK} {e : EW} {ρ : List (Option D)} {B : Int} {k : KD} {κ : KS} {ta tb tl te : TE} {t : TA} {us ts : TS} {pr : Pr} {i j sl : Nat} {ds : List D}
end
end AW

set_option linter.all false
set_option maxRecDepth 100000
set_option maxHeartbeats 4000000
namespace AW
open PySem PySem.Spec PyProof.Rows L2 RZ
variable [Tbs]
section
/-- ends of a statement, the owned list's items told -/
structure KO where
  nx : List (Option D) → List D → Int → Prop := fun _ _ _ => False
  rt : KD
  bk : List (Option D) → List D → Int → Prop := fun _ _ _ => False
  ct : List (Option D) → List D → Int → Prop := fun _ _ _ => False
def OOk (K : PySem.W.Frag) (k : List (Option D) → List D → Int → Prop) (Q : L2.St → Hp → Prop) (i : Nat) (p : Addr) (G0 H0 : Hp) (B0 : Int) : Prop := ∀ ρ ds σ B G H vs, k ρ ds B → Ext G0 H0 B0 G H B → EnvR K G B ρ σ → σ[i]? = some (some (.ref p)) → G p = none → H p = some (.lst vs) → RepL K G B ds vs → Q σ H
structure OEnds (K : PySem.W.Frag) (κ : KO) (Dn : Ends) (i : Nat) (p : Addr) (G0 H0 : Hp) (B0 : Int) : Prop where
  nx : OOk K κ.nx Dn.nx i p G0 H0 B0
  rt : KOk K κ.rt Dn.rt G0 H0 B0
  bk : OOk K κ.bk Dn.bk i p G0 H0 B0
  ct : OOk K κ.ct Dn.ct i p G0 H0 B0
variable {K : PySem.W.Frag} {E E' E1 : XK} {e : EW} {ρ : List (Option D)} {B : Int} {k : KD} {κ : KS} {κo : KO} {ta tb tl te : TE} {t : TA} {s us ts tbody : TS} {pr : Pr} {i j sl : Nat} {ds : List D} {g : TG}
theorem set_id {α : Type} {σ : List α} {i : Nat} {a : α} (h : σ[i]? = some a) : σ.set i a = σ := by
  apply List.ext_getElem?
  intro m
  rw [List.getElem?_set]
  by_cases hj : i = m
  · subst hj
    rw [if_pos rfl, h]
    split
    · rfl
    · have := (List.getElem?_eq_some_iff.mp h).1
      omega
  · rw [if_neg hj]
def del (H : Hp) (p : Addr) : Hp := fun b => if b = p then none else H b
theorem delD_same {H : Hp} {p : Addr} : del H p p = none := if_pos rfl
theorem delD_ne {H : Hp} {p b : Addr} (h : b ≠ p) : del H p b = H b := if_neg h
theorem Ext.base {G0 H0 G1 H1 : Hp} {B0 B1 : Int} {p : Addr} (ex : Ext G0 H0 B0 G1 H1 B1) (np : H0 p = none) (gp : G1 p = none) : Ext G0 H0 B0 G1 (del H1 p) B1 := ⟨ex.le, fun a o z => by
  rw [delD_ne (ne_of_none z gp)]; exact ex.sub _ _ z, fun a o z n t => by
  rw [delD_ne (ne_of_none z np)]; exact ex.fr _ _ z n t⟩
theorem Ext.back {G1 H1 : Hp} {B1 : Int} {p : Addr} (s : Sub G1 H1) : Ext G1 (del H1 p) B1 G1 H1 B1 := ⟨Le.of_sub (fun _ _ z => z) (Int.le_refl _), s, fun a o z n t => by
  have : a ≠ p := fun q => by rw [q, delD_same] at z; cases z
  rw [delD_ne this] at z
  exact ⟨z, n⟩⟩
theorem OOk.ext {k : List (Option D) → List D → Int → Prop} {Q : L2.St → Hp → Prop} {p : Addr} {G0 H0 G1 H1 : Hp} {B0 B1 : Int} (h : OOk K k Q i p G0 H0 B0) (ex : Ext G0 H0 B0 G1 H1 B1) : OOk K k Q i p G1 H1 B1 := fun ρ ds σ B G H vs hk e2 => h ρ ds σ B G H vs hk (ex.trans e2)
theorem OEnds.ext {p : Addr} {Dn : Ends} {G0 H0 G1 H1 : Hp} {B0 B1 : Int} (h : OEnds K κo Dn i p G0 H0 B0) (ex : Ext G0 H0 B0 G1 H1 B1) : OEnds K κo Dn i p G1 H1 B1 := ⟨h.nx.ext ex, h.rt.ext ex, h.bk.ext ex, h.ct.ext ex⟩
/-- the rounds' state -/
def OSt (K : PySem.W.Frag) (I : List (Option D) → List D → Int → Prop) (i : Nat) (p : Addr) (G1 H1 : Hp) (B1 : Int) (σ' : L2.St) (H' : Hp) : Prop := ∃ ρ' ds' B' G' vs', I ρ' ds' B' ∧ Ext G1 H1 B1 G' H' B' ∧ EnvR K G' B' ρ' σ' ∧ σ'[i]? = some (some (.ref p)) ∧ G' p = none ∧ H' p = some (.lst vs') ∧ RepL K G' B' ds' vs'
theorem OSt.ok {I : List (Option D) → List D → Int → Prop} {p : Addr} {G1 H1 : Hp} {B1 : Int} : OOk K I (OSt K I i p G1 H1 B1) i p G1 H1 B1 := fun ρ ds σ B G H vs hk e2 en hp gp hL hr => ⟨ρ, ds, B, G, vs, hk, e2, en, hp, gp, hL, hr⟩
end
end AW

set_option linter.all false
set_option maxRecDepth 100000
set_option maxHeartbeats 4000000
namespace AW
open PySem PySem.Spec PyProof.Rows L2 RZ
variable [Tbs]
section
variable {K : PySem.W.Frag} {E E' E1 : XK} {e : EW} {ρ : List (Option D)} {B : Int} {k : KD} {κ : KS} {ta tb tl te : TE} {t : TA} {i j : Nat}
end
end AW

set_option linter.all false
set_option maxRecDepth 100000
set_option maxHeartbeats 4000000
namespace AW
open PySem PySem.Spec PyProof.Rows L2 RZ
variable [Tbs]
section
variable {K : PySem.W.Frag} {E E' E1 : XK} {e : EW} {ρ : List (Option D)} {B : Int} {k : KD} {κ : KS} {ta tb tl te : TE} {tt : TT} {t : TA} {ts : TS} {g : TG} {i j l sl : Nat} {t1 t2 : TI}
end
end AW

set_option linter.all false
set_option maxRecDepth 100000
set_option maxHeartbeats 4000000
namespace AW
open PySem PySem.Spec PyProof.Rows L2 RZ
variable [Tbs]
section
variable {K : PySem.W.Frag} {E E' E1 : XK} {e : EW} {ρ : List (Option D)} {B : Int} {k : KD} {κ : KS} {ta tb tl te : TE} {tt : TT} {t : TA} {ts : TS} {g : TG} {sO sI : Nat}
def cutD (ds : List D) (lo hi : Option Int) : List D := (ds.drop (HT.sIx ds.length 0 lo)).take (HT.sIx ds.length ds.length hi - HT.sIx ds.length 0 lo)
theorem RepL.cut {G : Hp} {ds : List D} {vs : List V} (h : RepL K G B ds vs) (lo hi : Option Int) : RepL K G B (cutD ds lo hi) (cutV vs lo hi) := by
  unfold cutD cutV
  rw [← h.length]
  exact (h.drop _).take _
variable {tlo thi : TO}
variable {i j : Nat} {ds : List D} {us tbody : TS} {κo : KO} {tb : TE}
theorem RepL.set {G : Hp} {d : D} {v : V} (rv : Rep K G B d v) : ∀ {ds : List D} {vs : List V} (n : Nat), RepL K G B ds vs → RepL K G B (ds.set n d) (vs.set n v)
  | [], _, _, h => by rw [show _ = _ from h]; exact rfl
  | _ :: _, _, 0, ⟨_, w, rfl, _, h1⟩ => ⟨v, w, rfl, rv, h1⟩
  | _ :: _, _, n + 1, ⟨v0, w, rfl, h0, h1⟩ => ⟨v0, w.set n v, rfl, h0, RepL.set rv n h1⟩
end
end AW

set_option linter.all false
set_option maxRecDepth 100000
set_option maxHeartbeats 4000000
namespace AW
open PySem PySem.Spec PyProof.Rows L2 RZ
variable [Tbs]
section
variable {K : PySem.W.Frag} {E E' E1 : XK} {e : EW} {ρ : List (Option D)} {B : Int} {k : KD} {κ : KS} {κo : KO} {ta tb tl te : TE} {tt : TT} {t : TA} {ts us : TS} {g : TG} {i j sl : Nat} {ds : List D}
end
end AW

set_option linter.all false
set_option maxRecDepth 100000
set_option maxHeartbeats 4000000
namespace AW
open PySem PySem.Spec PyProof.Rows L2 RZ
variable [Tbs]
section
variable {K : PySem.W.Frag} {E E' E1 : XK} {e : EW} {ρ : List (Option D)} {B : Int} {k : KD} {κ : KS} {κo : KO} {ta tb tl te : TE} {tt : TT} {t : TA} {ts us : TS} {g : TG} {i j sl : Nat} {ds : List D}
end
end AW

set_option linter.all false
set_option maxRecDepth 100000
set_option maxHeartbeats 4000000
namespace AW
open PySem PySem.Spec PyProof.Rows L2 RZ
variable [Tbs]
section
variable {K : PySem.W.Frag} {E E' E1 : XK} {e : EW} {ρ : List (Option D)} {B : Int} {k : KD} {κ : KS} {κo : KO} {ta tb tl te : TE} {tt : TT} {t : TA} {ts us : TS} {g : TG} {i j sl : Nat} {ds : List D} {pr : Pr}
end
end AW

set_option linter.all false
set_option maxRecDepth 100000
set_option maxHeartbeats 4000000
namespace AW
open PySem PySem.Spec PyProof.Rows L2 RZ LamX
variable [Tbs]
def IsDT (o : HO) : Prop := ∃ kvs, o = .dT kvs ∨ ∃ ob, o = .frz ob (.dT kvs)
/-- what may change of dicts with tuple keys: locked or not -/
structure Lw (f : Bool) (G : Hp) (B : Int) (G' : Hp) (B' : Int) : Prop where
  b : B ≤ B'
  keep : ∀ a o, G a = some o → ¬ IsPen o → ¬ IsDT o → G' a = some o
  pen : ∀ a k l c s r, G a = some (.dK (penE k l c s r)) → ∃ s' r', G' a = some (.dK (penE k l c s' r')) ∧ (0 ≤ s → s ≤ B → 0 ≤ s' ∧ s' ≤ B')
  tb : Tabs Tbs.T G → Tabs Tbs.T G'
  dt : ∀ a kvs, (G a = some (.dT kvs) ∨ ∃ o, G a = some (.frz o (.dT kvs))) → (G' a = some (.dT kvs) ∨ ∃ o, G' a = some (.frz o (.dT kvs)))
  un : f = true → ∀ a kvs, G a = some (.dT kvs) → G' a = some (.dT kvs)
theorem nodt_tup {xs : List V} : ¬ IsDT (.tup xs) := fun ⟨_, h⟩ => by rcases h with h | ⟨_, h⟩ <;> cases h
theorem nodt_lst {xs : List V} : ¬ IsDT (.lst xs) := fun ⟨_, h⟩ => by rcases h with h | ⟨_, h⟩ <;> cases h
theorem nodt_ins {C dx : Addr} {fs : List (Str × V)} : ¬ IsDT (.ins C dx fs) := fun ⟨_, h⟩ => by rcases h with h | ⟨_, h⟩ <;> cases h
theorem nodt_dk {kvs : List (Key × V)} : ¬ IsDT (.dK kvs) := fun ⟨_, h⟩ => by rcases h with h | ⟨_, h⟩ <;> cases h
theorem nodt_ftup {o : Obj} {xs : List V} : ¬ IsDT (.frz o (.tup xs)) := fun ⟨_, h⟩ => by rcases h with h | ⟨_, h⟩ <;> cases h
theorem nodt_flst {o : Obj} {xs : List V} : ¬ IsDT (.frz o (.lst xs)) := fun ⟨_, h⟩ => by rcases h with h | ⟨_, h⟩ <;> cases h
section
variable {K : PySem.W.Frag} {G G' : Hp} {B B' : Int} {f : Bool}
theorem Lw.seqT {a : Addr} {xs : List V} (l : Lw f G B G' B') (h : SqT K G a xs) : SqT K G' a xs := by
  rcases h with (h | ⟨o, h⟩) | h
  · exact .inl (.inl (l.keep _ _ h nopen_tup nodt_tup))
  · exact .inl (.inr ⟨o, l.keep _ _ h nopen_frz nodt_ftup⟩)
  · exact .inr h
theorem Lw.seqL {a : Addr} {xs : List V} (l : Lw f G B G' B') (h : SqL K G a xs) : SqL K G' a xs := by
  rcases h with (h | ⟨o, h⟩) | h
  · exact .inl (.inl (l.keep _ _ h nopen_lst nodt_lst))
  · exact .inl (.inr ⟨o, l.keep _ _ h nopen_frz nodt_flst⟩)
  · exact .inr h
mutual
/-- no kept lambda, and (f not) no dict that must be free -/
def lkOk (f : Bool) : D → Bool
  | .tup ds => lkOkL f ds
  | .lst ds => lkOkL f ds
  | .ins _ _ ds => lkOkL f ds
  | .dk _ ds => lkOkL f ds
  | .dt lk _ ds => (lk || f) && lkOkL f ds
  | .at_ _ d => lkOk f d
  | .tb d => lkOk f d
  | .lam _ _ => false
  | _ => true
def lkOkL (f : Bool) : List D → Bool
  | [] => true
  | d :: ds => lkOk f d && lkOkL f ds
end
mutual
theorem Rep.weak (l : Lw f G B G' B') : ∀ {d : D} {v : V}, lkOk f d = true → Rep K G B d v → Rep K G' B' d v
  | .non, _, _, h => h
  | .bl _, _, _, h => h
  | .int _, _, _, h => h
  | .str _, _, _, h => h
  | .tup _, _, n, ⟨a, vs, e, h, r⟩ => ⟨a, vs, e, l.seqT h, RepL.weak l n r⟩
  | .lst _, _, n, ⟨a, vs, e, h, r⟩ => ⟨a, vs, e, l.keep _ _ h nopen_lst nodt_lst, RepL.weak l n r⟩
  | .ins _ _ _, _, n, ⟨a, dx, vs, e, h, nl, r⟩ => ⟨a, dx, vs, e, l.keep _ _ h nopen_ins nodt_ins, nl, RepL.weak l n r⟩
  | .pen k j, _, _, ⟨hT, a, c, ns, s, r, e, h, hc, n, h0, h1⟩ => by
    obtain ⟨s', r', h', q⟩ := l.pen a k j c s r h
    exact ⟨l.tb hT, a, c, ns, s', r', e, h', l.keep _ _ hc nopen_lst nodt_lst, n, (q h0 h1).1, (q h0 h1).2⟩
  | .val _, _, _, h => h
  | .at_ _ _, _, n, ⟨e, h⟩ => ⟨e, Rep.weak l n h⟩
  | .tb _, _, n, ⟨e, h⟩ => ⟨l.tb e, Rep.weak l n h⟩
  | .edk, _, _, ⟨a, e, h⟩ => ⟨a, e, l.keep _ _ h nopen_edk nodt_dk⟩
  | .dk _ _, _, m, ⟨a, vs, e, h, n, r⟩ => ⟨a, vs, e, l.keep _ _ h n nodt_dk, n, RepL.weak l m r⟩
  | .kt _, _, _, ⟨a, e, h⟩ => ⟨a, e, l.keep _ _ h nopen_tup nodt_tup⟩
  | .dt lk _ _, _, m, ⟨a, vs, e, h, n, r⟩ => by
    have m' : ((lk || f) && lkOkL f _) = true := m
    rw [Bool.and_eq_true, Bool.or_eq_true] at m'
    refine ⟨a, vs, e, ?_, n, RepL.weak l m'.2 r⟩
    rcases h with h | ⟨hl, h⟩
    · rcases m'.1 with z | z
      · exact (l.dt a _ (.inl h)).imp id fun y => ⟨z, y⟩
      · exact .inl (l.un z a _ h)
    · exact (l.dt a _ (.inr h)).imp id fun y => ⟨hl, y⟩
  | .lam _ _, _, n, _ => nomatch n
  | .scr _, _, _, ⟨hT, a, e, h⟩ => ⟨l.tb hT, a, e, l.seqL h⟩
theorem RepL.weak (l : Lw f G B G' B') : ∀ {ds : List D} {vs : List V}, lkOkL f ds = true → RepL K G B ds vs → RepL K G' B' ds vs
  | [], _, _, h => h
  | d :: ds, _, n, ⟨v, r, e, h, hr⟩ => by
    have n' : (lkOk f d && lkOkL f ds) = true := n
    rw [Bool.and_eq_true] at n'
    exact ⟨v, r, e, Rep.weak l n'.1 h, RepL.weak l n'.2 hr⟩
end
def lkOkE (f : Bool) : List (Option D) → Bool
  | [] => true
  | none :: r => lkOkE f r
  | some d :: r => lkOk f d && lkOkE f r
theorem EnvR.weak (l : Lw f G B G' B') : ∀ {ρ : List (Option D)} {σ : L2.St}, lkOkE f ρ = true → EnvR K G B ρ σ → EnvR K G' B' ρ σ
  | [], _, _, h => h
  | none :: _, _, n, ⟨x, r, e, h, hr⟩ => ⟨x, r, e, fun d q => (nomatch q), EnvR.weak l n hr⟩
  | some d :: ρ, _, n, ⟨x, r, e, h, hr⟩ => by
    have n' : (lkOk f d && lkOkE f ρ) = true := n
    rw [Bool.and_eq_true] at n'
    exact ⟨x, r, e, fun d' q => by cases q; obtain ⟨v, h1, h2⟩ := h d rfl; exact ⟨v, h1, Rep.weak l n'.1 h2⟩, EnvR.weak l n'.2 hr⟩
/-- the dict at d locked -/
theorem lw_lock {d : Addr} {kvs : List (List Key × V)} {od : Obj} (h : G d = some (.dT kvs)) : Lw false G B (upd G d (.frz od (.dT kvs))) B := by
  have ne : ∀ a o, G a = some o → ¬ IsDT o → a ≠ d := fun a o e n z => by subst z; rw [h] at e; cases e; exact n ⟨kvs, .inl rfl⟩
  refine ⟨Int.le_refl _, fun a o e _ n => by rw [upd_ne (ne a o e n)]; exact e, fun a k l c s r e => ⟨s, r, by rw [upd_ne (ne a _ e nodt_dk)]; exact e, fun x y => ⟨x, y⟩⟩, fun z p hp => ?_, fun a kvs' e => ?_, fun z => nomatch z⟩
  · obtain ⟨ps, t1, t2, t3⟩ := z p hp
    refine ⟨ps, by rw [upd_ne (fun w => by rw [w, h] at t1; cases t1)]; exact t1, t2, fun pos cv hc => ?_⟩
    obtain ⟨c, y1, y2⟩ := t3 pos cv hc
    exact ⟨c, y1, by rw [upd_ne (fun w => by rw [w, h] at y2; unfold LamX.CodeO at y2; cases y2)]; exact y2⟩
  · by_cases w : a = d
    · subst w
      rw [upd_same]
      rcases e with e | ⟨o, e⟩
      · rw [h] at e; cases e; exact .inr ⟨od, rfl⟩
      · rw [h] at e; cases e
    · rw [upd_ne w]; exact e
theorem lw_unlock {d : Addr} {kvs : List (List Key × V)} {od : Obj} (h : G d = some (.frz od (.dT kvs))) : Lw true G B (upd G d (.dT kvs)) B := by
  have ne : ∀ a o, G a = some o → ¬ IsDT o → a ≠ d := fun a o e n z => by subst z; rw [h] at e; cases e; exact n ⟨kvs, .inr ⟨od, rfl⟩⟩
  refine ⟨Int.le_refl _, fun a o e _ n => by rw [upd_ne (ne a o e n)]; exact e, fun a k l c s r e => ⟨s, r, by rw [upd_ne (ne a _ e nodt_dk)]; exact e, fun x y => ⟨x, y⟩⟩, fun z p hp => ?_, fun a kvs' e => ?_, fun _ a kvs' e => ?_⟩
  · obtain ⟨ps, t1, t2, t3⟩ := z p hp
    refine ⟨ps, by rw [upd_ne (fun w => by rw [w, h] at t1; cases t1)]; exact t1, t2, fun pos cv hc => ?_⟩
    obtain ⟨c, y1, y2⟩ := t3 pos cv hc
    exact ⟨c, y1, by rw [upd_ne (fun w => by rw [w, h] at y2; unfold LamX.CodeO at y2; cases y2)]; exact y2⟩
  · by_cases w : a = d
    · subst w
      rw [upd_same]
      rcases e with e | ⟨o, e⟩
      · rw [h] at e; cases e
      · rw [h] at e; cases e; exact .inl rfl
    · rw [upd_ne w]; exact e
  · rw [upd_ne (fun w => by rw [w, h] at e; cases e)]; exact e
/-- behind the lock -/
theorem ext_unlock {H G1 H1 : Hp} {B1 : Int} {d : Addr} {kvs : List (List Key × V)} {od : Obj} (hs : Sub G H) (h : G d = some (.dT kvs)) (ex : Ext (upd G d (.frz od (.dT kvs))) (upd H d (.frz od (.dT kvs))) B G1 H1 B1) :
    G1 d = some (.frz od (.dT kvs)) ∧ H1 d = some (.frz od (.dT kvs)) ∧ Ext G H B (upd G1 d (.dT kvs)) (upd H1 d (.dT kvs)) B1 := by
  have g1 : G1 d = some (.frz od (.dT kvs)) := ex.le.keep d _ upd_same nopen_frz
  refine ⟨g1, ex.sub _ _ g1, ⟨ex.le.b, fun a o e n => ?_, fun a k l c s r e => ?_, fun z => ?_⟩, fun a o e => ?_, fun a o e n t => ?_⟩
  · by_cases w : a = d
    · subst w; rw [h] at e; cases e; rw [upd_same]
    · rw [upd_ne w]; exact ex.le.keep a o (by rw [upd_ne w]; exact e) n
  · have w : a ≠ d := fun w => by rw [w, h] at e; cases e
    obtain ⟨s', r', e2, q⟩ := ex.le.pen a k l c s r (by rw [upd_ne w]; exact e)
    exact ⟨s', r', by rw [upd_ne w]; exact e2, q⟩
  · exact (lw_unlock (B := B) g1).tb (ex.le.tb ((lw_lock (B := B) (od := od) h).tb z))
  · by_cases w : a = d
    · subst w; rw [upd_same] at e ⊢; exact e
    · rw [upd_ne w] at e ⊢; exact ex.sub _ _ e
  · have w : a ≠ d := fun w => by rw [w, h] at n; cases n
    obtain ⟨z1, z2⟩ := ex.fr a o (by rw [upd_ne w]; exact e) (by rw [upd_ne w]; exact n) t
    exact ⟨by rw [upd_ne w]; exact z1, by rw [upd_ne w]; exact z2⟩
end
end AW

set_option linter.all false
set_option maxRecDepth 100000
set_option maxHeartbeats 4000000
namespace AW
open PySem PySem.Spec PyProof.Rows L2 RZ LamX
variable [Tbs]
def lkD (l : List (List Key × D)) (k : List Key) : Option D := (l.find? fun p => decide (p.1 = k)).map (·.2)
abbrev dtD (lk : Bool) (l : List (List Key × D)) : D := .dt lk (l.map (·.1)) (l.map (·.2))
def kD : Key → D
  | .inl i => .int i
  | .inr x => .str x
/-- the same value, as a tuple -/
inductive Wk : D → D → Prop where
  | refl (d : D) : Wk d d
  | kt (ks : List Key) : Wk (.kt ks) (.tup (ks.map kD))
  | lst (kss : List (List Key)) : Wk (.lst (kss.map D.kt)) (.lst (kss.map fun ks => .tup (ks.map kD)))
section
variable {K : PySem.W.Frag} {G H : Hp} {B : Int}
theorem RepL.keys : ∀ ks : List Key, RepL K G B (ks.map kD) (ks.map kV)
  | [] => rfl
  | .inl _ :: r => ⟨_, _, rfl, rfl, RepL.keys r⟩
  | .inr _ :: r => ⟨_, _, rfl, rfl, RepL.keys r⟩
theorem RepL.keysV : ∀ (ks : List Key) {vs : List V}, RepL K G B (ks.map kD) vs → vs = ks.map kV
  | [], _, h => h
  | .inl z :: r, _, ⟨v, w, e, h1, h2⟩ => by rw [e, show v = _ from h1, RepL.keysV r h2]; rfl
  | .inr z :: r, _, ⟨v, w, e, h1, h2⟩ => by rw [e, show v = _ from h1, RepL.keysV r h2]; rfl
theorem Rep.ktT {ks : List Key} {v : V} (h : Rep K G B (.kt ks) v) : Rep K G B (.tup (ks.map kD)) v := by
  obtain ⟨a, e, h⟩ := h
  exact ⟨a, _, e, SqT.of h, RepL.keys ks⟩
theorem Wk.rep {d d' : D} {v : V} (w : Wk d d') (h : Rep K G B d v) : Rep K G B d' v := by
  cases w with
  | refl => exact h
  | kt ks => exact h.ktT
  | lst kss =>
    obtain ⟨a, vs, e, h, hr⟩ := h
    refine ⟨a, vs, e, h, ?_⟩
    clear h e
    induction kss generalizing vs with
    | nil => exact hr
    | cons ks r ih =>
      obtain ⟨v, w, rfl, h1, h2⟩ := hr
      exact ⟨v, w, rfl, h1.ktT, ih w h2⟩
theorem dt_val : ∀ {l : List (List Key × D)} {vs : List V} (k : List Key), RepL K G B (l.map (·.2)) vs → (lkD l k = none → valV ((l.map (·.1)).zip vs) k = none) ∧ (∀ d, lkD l k = some d → ∃ v, valV ((l.map (·.1)).zip vs) k = some v ∧ Rep K G B d v)
  | [], vs, k, h => ⟨fun _ => rfl, fun d z => by simp [lkD] at z⟩
  | (k1, d1) :: l, vs, k, h => by
    obtain ⟨v, w, rfl, r1, r2⟩ := h
    obtain ⟨i1, i2⟩ := dt_val (l := l) k r2
    by_cases e : k1 = k
    · subst e
      refine ⟨fun z => by simp [lkD] at z, fun d z => ?_⟩
      simp only [lkD, List.find?_cons, decide_true, Option.map_some, Option.some.injEq] at z
      subst z
      exact ⟨v, by simp [valV], r1⟩
    · have e1 : lkD ((k1, d1) :: l) k = lkD l k := by simp [lkD, List.find?_cons, e]
      have e2 : valV (((k1, d1) :: l).map (·.1) |>.zip (v :: w)) k = valV ((l.map (·.1)).zip w) k := by simp [valV, List.find?_cons, e]
      rw [e1, e2]
      exact ⟨i1, i2⟩
theorem dt_rd {lk : Bool} {a : Addr} {kvs : List (List Key × V)} (s : Sub G H) (h : G a = some (.dT kvs) ∨ lk = true ∧ ∃ o, G a = some (.frz o (.dT kvs))) : Rd H a (.dT kvs) := by
  rcases h with h | ⟨_, o, h⟩
  · exact .inl (s _ _ h)
  · exact .inr ⟨o, s _ _ h⟩
end
section
variable {K : PySem.W.Frag} {E E' E1 : XK} {e : EW} {ρ : List (Option D)} {B : Int} {k : KD} {κ : KS} {κo : KO} {ta tb tc tl te : TE} {tt : TT} {t : TA} {ts us tbody : TS} {g : TG} {i j sl : Nat} {ds : List D} {pr : Pr}
theorem we_wk (h : We K E e ta ρ B fun d B1 => ∃ d', Wk d d' ∧ k d' B1) : We K E e ta ρ B k := fun σ H G Q s en x q => h σ H G Q s en x fun d v B1 G1 H1 ⟨d', w, hk⟩ e1 r1 => q d' v B1 G1 H1 hk e1 (w.rep r1)
/-- a tuple of ints and texts, known to stand by itself -/
theorem we_kt (h : Wa K E e t ρ B fun as B1 => ∃ ks : List Key, as = ks.map kD ∧ ks.length ≤ sizeLine ∧ k (.kt ks) B1) : We K E e (tTup t) ρ B k := fun σ H G Q s en x q =>
  h σ H G _ s en x fun as vs B1 G1 H1 ⟨ks, ea, hl, hk⟩ e1 r1 => by
    subst ea
    have ev : vs = ks.map kV := RepL.keysV ks r1
    subst ev
    refine ⟨by rw [List.length_map]; exact hl, fun p np => q _ _ _ _ _ hk (e1.trans (Ext.new e1.sub np)) ⟨p, rfl, upd_same⟩⟩
theorem we_dgetT (h : We K E e ta ρ B fun d B1 => ∃ lk l, d = dtD lk l ∧ We K E e tb ρ B1 fun kd B2 => ∃ c d', kd = .kt c ∧ lkD l c = some d' ∧ k d' B2) : We K E e (tDGet ta tb) ρ B k := fun σ H G Q s en x q =>
  h σ H G _ s en x fun d v B1 G1 H1 ⟨lk, l, ed, h1⟩ e1 r1 => h1 σ H1 G1 _ e1.sub (en.mono e1.le) (x.ext e1) fun kd y B2 G2 H2 ⟨c, d', ek, hl, hk⟩ e2 r2 => by
    subst ed ek
    obtain ⟨a, vs, rfl, ha, hn, hr⟩ := r1.mono e2.le
    obtain ⟨b, rfl, hb⟩ := r2
    obtain ⟨v, hv, rv⟩ := (dt_val c hr).2 d' hl
    exact ⟨a, v, rfl, .inr ⟨_, c, b, dt_rd e2.sub ha, rfl, e2.sub _ _ hb, hv.symm⟩, q _ _ _ _ _ hk (e1.trans e2) rv⟩
theorem dt_get {l : List (List Key × D)} {vs : List V} {G : Hp} (hr : RepL K G B (l.map (·.2)) vs) (c : List Key) : ∃ o, valV ((l.map (·.1)).zip vs) c = o ∧ o.isSome = (lkD l c).isSome ∧ (∀ d, lkD l c = some d → ∃ v, o = some v ∧ Rep K G B d v) ∧ (lkD l c = none → o = none) := by
  obtain ⟨h1, h2⟩ := dt_val c hr
  refine ⟨_, rfl, ?_, h2, h1⟩
  cases e : lkD l c with
  | none => rw [h1 e]; rfl
  | some d => obtain ⟨v, hv, _⟩ := h2 d e; rw [hv]; rfl
theorem we_dinT (h : We K E e tb ρ B fun kd B1 => ∃ c, kd = .kt c ∧ We K E e ta ρ B1 fun d B2 => ∃ lk l, d = dtD lk l ∧ k (.bl (lkD l c).isSome) B2) : We K E e (tDIn tb ta) ρ B k := fun σ H G Q s en x q =>
  h σ H G _ s en x fun kd y B1 G1 H1 ⟨c, ek, h1⟩ e1 r1 => h1 σ H1 G1 _ e1.sub (en.mono e1.le) (x.ext e1) fun d v B2 G2 H2 ⟨lk, l, ed, hk⟩ e2 r2 => by
    subst ed ek
    obtain ⟨b, rfl, hb⟩ := r1.mono e2.le
    obtain ⟨a, vs, rfl, ha, hn, hr⟩ := r2
    obtain ⟨o, ho, hs, _⟩ := dt_get hr c
    refine ⟨a, o, rfl, .inr ⟨_, c, b, dt_rd e2.sub ha, rfl, e2.sub _ _ hb, ho.symm⟩, ?_⟩
    rw [hs]
    exact q _ _ _ _ _ hk (e1.trans e2) rfl
theorem lkOkE_get : ∀ {ρ : List (Option D)} {i : Nat} {d : D} {f : Bool}, lkOkE f ρ = true → ρ[i]? = some (some d) → lkOk f d = true
  | [], _, _, _, _, h => by simp at h
  | o :: r, 0, d, f, hr, h => by
    simp at h
    subst h
    have hr' : (lkOk f d && lkOkE f r) = true := hr
    rw [Bool.and_eq_true] at hr'
    exact hr'.1
  | none :: r, i + 1, d, f, hr, h => lkOkE_get (ρ := r) hr (by simpa using h)
  | some d' :: r, i + 1, d, f, hr, h => by
    have hr' : (lkOk f d' && lkOkE f r) = true := hr
    rw [Bool.and_eq_true] at hr'
    exact lkOkE_get (ρ := r) hr'.2 (by simpa using h)
theorem sub_lock {G H : Hp} {a : Addr} {o : HO} (s : Sub G H) : Sub (upd G a o) (upd H a o) := fun b u z => by
  by_cases w : b = a
  · subst w; rw [upd_same] at z ⊢; exact z
  · rw [upd_ne w] at z ⊢; exact s _ _ z
end
end AW

set_option linter.all false
set_option maxRecDepth 100000
set_option maxHeartbeats 4000000
namespace AW
open PySem PySem.Spec PyProof.Rows L2 RZ LamX
variable [Tbs]
def chS (x : Str) : List Str := x.cps.toList.map fun c => ⟨#[c]⟩
theorem chS_get {x : Str} {i : Nat} {c : Nat} (h : x.cps[i]? = some c) : (chS x)[i]? = some (⟨#[c]⟩ : Str) := by
  unfold chS
  rw [List.getElem?_map, Array.getElem?_toList, h]
  rfl
theorem chS_len (x : Str) : (chS x).length = x.cps.size := by unfold chS; rw [List.length_map, Array.length_toList]
theorem un0 {k : Nat} {A : Around} (r : Room k A) : A.units < cLine := by have := r.un; omega
section
variable {K : PySem.W.Frag} {E E' E1 : XK} {e : EW} {ρ : List (Option D)} {B : Int} {k : KD} {κ : KS} {κo : KO} {ta tb tc tl te ti : TE} {tt : TT} {t : TA} {ts us tbody : TS} {g : TG} {i j sl : Nat} {ds : List D} {pr : Pr}
theorem ro_inS {a b : Str} (h : k (.bl (!(Builtin.Str.occurrences b a 0 b.length 1).isEmpty)) B) : Ro K E e (fun x y H Q => ∃ i j, x = .str i ∧ y = .str j ∧ Q (.bl (!(Builtin.Str.occurrences j i 0 j.length 1).isEmpty)) H) (.str a) (.str b) B k := fun x y H G Q s r1 r2 _ q => by
  rw [show x = _ from r1, show y = _ from r2]
  exact ⟨a, b, rfl, rfl, q _ _ _ _ _ h (Ext.refl s) rfl⟩
end
end AW

set_option linter.all false
set_option maxRecDepth 100000
set_option maxHeartbeats 4000000
namespace AW
open PySem PySem.Spec PyProof.Rows L2 RZ LamX
variable [Tbs]
inductive OC where
  | dict (l : List (List Key × Int))
  | list (es : List D)
  | dictD (l : List (List Key × D))
  | lckD (od : Obj) (l : List (List Key × D)) (vs : List V)
  | obj (C dx : Addr) (fs : List (Str × D))
def kvI (e : List Key × Int) : List Key × V := (e.1, .int e.2)
def Own1 (K : PySem.W.Frag) (G H : Hp) (B : Int) (a : Addr) : OC → Prop
  | .dict l => H a = some (.dT (l.map kvI))
  | .list es => ∃ vs, H a = some (.lst vs) ∧ RepL K G B es vs
  | .dictD l => ∃ vs, H a = some (.dT ((l.map (·.1)).zip vs)) ∧ RepL K G B (l.map (·.2)) vs
  | .lckD od l vs => H a = some (.frz od (.dT ((l.map (·.1)).zip vs))) ∧ RepL K G B (l.map (·.2)) vs
  | .obj C dx fs => ∃ vs, H a = some (.ins C dx ((fs.map (·.1)).zip vs)) ∧ RepL K G B (fs.map (·.2)) vs
def NoH0 (G0 H0 : Hp) (a : Addr) : Prop := ∀ o, H0 a = some o → G0 a = none → NTb o → False
structure Owns (K : PySem.W.Frag) (G0 H0 G H : Hp) (B : Int) (O : List (Addr × OC)) : Prop where
  nd : (O.map (·.1)).Nodup
  at_ : ∀ x ∈ O, NoH0 G0 H0 x.1 ∧ G x.1 = none ∧ Own1 K G H B x.1 x.2
structure KX where
  nx : List (Option D) → List (Addr × OC) → Int → Prop := fun _ _ _ => False
  rt : KD
  bk : List (Option D) → List (Addr × OC) → Int → Prop := fun _ _ _ => False
  ct : List (Option D) → List (Addr × OC) → Int → Prop := fun _ _ _ => False
section
variable {K : PySem.W.Frag}
theorem Own1.ext {G H G1 H1 : Hp} {B B1 : Int} {a : Addr} {o : OC} (h : Own1 K G H B a o) (g : G a = none) (e : Ext G H B G1 H1 B1) : Own1 K G1 H1 B1 a o ∧ G1 a = none := by
  cases o with
  | dict l =>
    obtain ⟨z1, z2⟩ := e.fr a _ h g ⟨(fun _ z => nomatch z), fun _ z => nomatch z⟩
    exact ⟨z1, z2⟩
  | list es =>
    obtain ⟨vs, h, hr⟩ := h
    obtain ⟨z1, z2⟩ := e.fr a _ h g ⟨(fun _ z => nomatch z), fun _ z => nomatch z⟩
    exact ⟨⟨vs, z1, hr.mono e.le⟩, z2⟩
  | dictD l =>
    obtain ⟨vs, h, hr⟩ := h
    obtain ⟨z1, z2⟩ := e.fr a _ h g ⟨(fun _ z => nomatch z), fun _ z => nomatch z⟩
    exact ⟨⟨vs, z1, hr.mono e.le⟩, z2⟩
  | lckD od l vs =>
    obtain ⟨h, hr⟩ := h
    obtain ⟨z1, z2⟩ := e.fr a _ h g ⟨(fun _ z => nomatch z), fun _ z => nomatch z⟩
    exact ⟨⟨z1, hr.mono e.le⟩, z2⟩
  | obj C dx fs =>
    obtain ⟨vs, h, hr⟩ := h
    obtain ⟨z1, z2⟩ := e.fr a _ h g ⟨(fun _ z => nomatch z), fun _ z => nomatch z⟩
    exact ⟨⟨vs, z1, hr.mono e.le⟩, z2⟩
theorem Owns.ext {G0 H0 G H G1 H1 : Hp} {B B1 : Int} {O : List (Addr × OC)} (h : Owns K G0 H0 G H B O) (e : Ext G H B G1 H1 B1) : Owns K G0 H0 G1 H1 B1 O :=
  ⟨h.nd, fun x hx => let ⟨a, b, c⟩ := h.at_ x hx; ⟨a, (c.ext b e).2, (c.ext b e).1⟩⟩
def XEnd (K : PySem.W.Frag) (k : List (Option D) → List (Addr × OC) → Int → Prop) (Q : L2.St → Hp → Prop) (G0 H0 : Hp) (B0 : Int) : Prop := ∀ ρ O σ B G H, k ρ O B → Ext G0 H0 B0 G H B → EnvR K G B ρ σ → Owns K G0 H0 G H B O → Q σ H
structure XEnds (K : PySem.W.Frag) (κ : KX) (Dn : Ends) (G0 H0 : Hp) (B0 : Int) : Prop where
  nx : XEnd K κ.nx Dn.nx G0 H0 B0
  rt : KOk K κ.rt Dn.rt G0 H0 B0
  bk : XEnd K κ.bk Dn.bk G0 H0 B0
  ct : XEnd K κ.ct Dn.ct G0 H0 B0
def WOw (K : PySem.W.Frag) (E : XK) (e : EW) (t : TS) (ρ : List (Option D)) (B : Int) (O : List (Addr × OC)) (κ : KX) : Prop :=
  ∀ σ H G Dn G0 H0 B0, EnvR K G B ρ σ → Owns K G0 H0 G H B O → Ext G0 H0 B0 G H B → XOk K E e G0 H0 B0 → XEnds K κ Dn G0 H0 B0 → t Dn σ H
variable {E E' : XK} {e : EW} {ρ : List (Option D)} {B : Int} {k : KD} {κ : KS} {κx : KX} {ta tb tc tl te ti : TE} {tt : TT} {t : TA} {s ts us tbody : TS} {g : TG} {i j n : Nat} {ds : List D} {O : List (Addr × OC)} {p : Addr} {l : List (List Key × Int)} {es : List D}
theorem wx_own (h : WOw K E e s ρ B [] { nx := fun ρ' _ B' => κ.nx ρ' B', rt := κ.rt }) : Ws K E e s ρ B κ := fun σ H G Dn sb en x q =>
  h σ H G Dn G H B en ⟨List.nodup_nil, fun x hx => nomatch hx⟩ (Ext.refl sb) x ⟨fun ρ' O' σ' B' G' H' hz ex en' _ => q.nx ρ' σ' B' G' H' hz ex en', q.rt, fun _ _ _ _ _ _ z => z.elim, fun _ _ _ _ _ _ z => z.elim⟩
theorem wx_seq (h : WOw K E e s ρ B O { κx with nx := fun ρ' O' B' => WOw K E e us ρ' B' O' κx }) : WOw K E e (tSeq s us) ρ B O κx := fun σ H G Dn G0 H0 B0 en ow ex x q =>
  h σ H G { Dn with nx := us Dn } G0 H0 B0 en ow ex x ⟨fun ρ' O' σ' B' G' H' hz ex' en' ow' => hz σ' H' G' Dn G0 H0 B0 en' ow' ex' x q, q.rt, q.bk, q.ct⟩
theorem wx_cut (J : List (Option D) → List (Addr × OC) → Int → Prop) (h1 : WOw K E e s ρ B O { κx with nx := J }) (h2 : ∀ ρ' O' B', J ρ' O' B' → WOw K E e us ρ' B' O' κx) : WOw K E e (tSeq s us) ρ B O κx :=
  wx_seq fun σ H G Dn G0 H0 B0 en ow ex x q => h1 σ H G Dn G0 H0 B0 en ow ex x ⟨fun ρ' O' σ' B' G' H' hz ex' en' ow' => q.nx ρ' O' σ' B' G' H' (h2 _ _ _ hz) ex' en' ow', q.rt, q.bk, q.ct⟩
theorem wx_ws (h : Ws K E e s ρ B { nx := fun ρ' B' => κx.nx ρ' O B', rt := κx.rt, bk := fun ρ' B' => κx.bk ρ' O B', ct := fun ρ' B' => κx.ct ρ' O B' }) : WOw K E e s ρ B O κx := fun σ H G Dn G0 H0 B0 en ow ex x q =>
  h σ H G Dn ex.sub en (x.ext ex) ⟨fun ρ' σ' B' G' H' hz e1 en' => q.nx ρ' O σ' B' G' H' hz (ex.trans e1) en' (ow.ext e1), q.rt.ext ex, fun ρ' σ' B' G' H' hz e1 en' => q.bk ρ' O σ' B' G' H' hz (ex.trans e1) en' (ow.ext e1), fun ρ' σ' B' G' H' hz e1 en' => q.ct ρ' O σ' B' G' H' hz (ex.trans e1) en' (ow.ext e1)⟩
theorem none_sub {G H : Hp} {a : Addr} (s : Sub G H) (h : H a = none) : G a = none := by
  cases z : G a with
  | none => rfl
  | some u => rw [s _ _ z] at h; cases h
theorem Own1.some {G H : Hp} {a : Addr} {o : OC} (h : Own1 K G H B a o) : ∃ v, H a = some v := by
  cases o with
  | dict l => exact ⟨_, h⟩
  | list es => obtain ⟨vs, h, _⟩ := h; exact ⟨_, h⟩
  | dictD l => obtain ⟨vs, h, _⟩ := h; exact ⟨_, h⟩
  | lckD od l vs => exact ⟨_, h.1⟩
  | obj C dx fs => obtain ⟨vs, h, _⟩ := h; exact ⟨_, h⟩
theorem noH0 {G0 H0 G H : Hp} {B0 : Int} {a : Addr} (ex : Ext G0 H0 B0 G H B) (ha : H a = none) : NoH0 G0 H0 a := fun o z y nt => by
  rw [(ex.fr a o z y nt).1] at ha; cases ha
/-- a new thing owned -/
theorem owns_cons {G0 H0 G H : Hp} {B0 : Int} {a : Addr} {o : OC} {u : HO} (ow : Owns K G0 H0 G H B O) (ex : Ext G0 H0 B0 G H B) (ha : H a = none) (h1 : Own1 K G (upd H a u) B a o) : Owns K G0 H0 G (upd H a u) B ((a, o) :: O) := by
  refine ⟨List.nodup_cons.mpr ⟨fun hm => ?_, ow.nd⟩, fun x hx => ?_⟩
  · obtain ⟨c, hc, ec⟩ := List.mem_map.mp hm
    obtain ⟨v, hv⟩ := (ow.at_ c hc).2.2.some
    have ec : c.1 = a := ec
    rw [ec, ha] at hv; cases hv
  · rcases List.mem_cons.mp hx with rfl | hx
    · exact ⟨noH0 ex ha, none_sub ex.sub ha, h1⟩
    · obtain ⟨z1, z2, z3⟩ := ow.at_ x hx
      exact ⟨z1, z2, (z3.ext z2 (Ext.hid (B := B) ex.sub ha)).1⟩
theorem Ext.chgN {G0 H0 G H : Hp} {B0 : Int} {a : Addr} {o : HO} (ex : Ext G0 H0 B0 G H B) (np : NoH0 G0 H0 a) (gp : G a = none) : Ext G0 H0 B0 G (upd H a o) B :=
  ⟨ex.le, fun b u z => by rw [upd_ne (ne_of_none z gp)]; exact ex.sub _ _ z, fun b u z n t => by rw [upd_ne (fun w => by subst w; exact np u z n t)]; exact ex.fr _ _ z n t⟩
/-- a thing owned is changed -/
theorem owns_set {G0 H0 G H : Hp} {a : Addr} {o o' : OC} {u : HO} (ow : Owns K G0 H0 G H B O) (hn : O[n]? = some (a, o)) (h1 : Own1 K G (upd H a u) B a o') : Owns K G0 H0 G (upd H a u) B (O.set n (a, o')) := by
  have hl := (List.getElem?_eq_some_iff.mp hn).1
  have he : (O.set n (a, o')).map (·.1) = O.map (·.1) := by
    apply List.ext_getElem?
    intro m
    rw [List.getElem?_map, List.getElem?_map, List.getElem?_set]
    by_cases q : n = m
    · subst q; rw [if_pos rfl, if_pos hl, hn]; rfl
    · rw [if_neg q]
  refine ⟨by rw [he]; exact ow.nd, fun x hx => ?_⟩
  obtain ⟨m, hm⟩ := List.mem_iff_getElem?.mp hx
  rw [List.getElem?_set] at hm
  by_cases q : n = m
  · subst q
    rw [if_pos rfl, if_pos hl] at hm
    cases hm
    obtain ⟨z1, z2, _⟩ := ow.at_ _ (List.mem_of_getElem? hn)
    exact ⟨z1, z2, h1⟩
  · rw [if_neg q] at hm
    obtain ⟨z1, z2, z3⟩ := ow.at_ _ (List.mem_of_getElem? hm)
    have ne : x.1 ≠ a := fun w => by
      have e1 : (O.map (·.1))[n]? = some a := by rw [List.getElem?_map, hn]; rfl
      have e2 : (O.map (·.1))[m]? = some a := by rw [List.getElem?_map, hm, ← w]; rfl
      have hm' := (List.getElem?_eq_some_iff.mp hm).1
      exact q ((List.getElem?_inj (by rw [List.length_map]; exact hl) ow.nd).mp (e1.trans e2.symm))
    refine ⟨z1, z2, ?_⟩
    revert z3
    cases x.2 with
    | dict l => intro z3; show upd H a u x.1 = _; rw [upd_ne ne]; exact z3
    | list es => rintro ⟨vs, z3, z4⟩; exact ⟨vs, by rw [upd_ne ne]; exact z3, z4⟩
    | dictD l => rintro ⟨vs, z3, z4⟩; exact ⟨vs, by rw [upd_ne ne]; exact z3, z4⟩
    | lckD od l vs => rintro ⟨z3, z4⟩; exact ⟨by rw [upd_ne ne]; exact z3, z4⟩
    | obj C dx fs => rintro ⟨vs, z3, z4⟩; exact ⟨vs, by rw [upd_ne ne]; exact z3, z4⟩
/-- a thing owned is told -/
theorem owns_tell {G0 H0 G H : Hp} {B0 : Int} {a : Addr} {o : OC} {u : HO} (ow : Owns K G0 H0 G H B ((a, o) :: O)) (ex : Ext G0 H0 B0 G H B) (hu : H a = some u) : Ext G0 H0 B0 (upd G a u) H B ∧ Owns K G0 H0 (upd G a u) H B O ∧ Le G B (upd G a u) B := by
  obtain ⟨np, gp, _⟩ := ow.at_ (a, o) (List.mem_cons_self ..)
  have np : NoH0 G0 H0 a := np
  have gp : G a = none := gp
  have le : Le G B (upd G a u) B := Le.of_sub (fun b o z => by rw [upd_ne (ne_of_none z gp)]; exact z) (Int.le_refl _)
  refine ⟨⟨ex.le.trans le, fun b o z => ?_, fun b o z n t => ?_⟩, ⟨(List.nodup_cons.mp ow.nd).2, fun x hx => ?_⟩, le⟩
  · by_cases w : b = a
    · subst w; rw [upd_same] at z; cases z; exact hu
    · rw [upd_ne w] at z; exact ex.sub _ _ z
  · rw [upd_ne (fun w => by subst w; exact np o z n t)]; exact ex.fr _ _ z n t
  · obtain ⟨z1, z2, z3⟩ := ow.at_ x (List.mem_cons_of_mem _ hx)
    have ne : x.1 ≠ a := fun w => (List.nodup_cons.mp ow.nd).1 (List.mem_map.mpr ⟨x, hx, w⟩)
    refine ⟨z1, by rw [upd_ne ne]; exact z2, ?_⟩
    revert z3
    cases x.2 with
    | dict l => exact fun z3 => z3
    | list es => rintro ⟨vs, z3, z4⟩; exact ⟨vs, z3, z4.mono le⟩
    | dictD l => rintro ⟨vs, z3, z4⟩; exact ⟨vs, z3, z4.mono le⟩
    | lckD od l vs => rintro ⟨z3, z4⟩; exact ⟨z3, z4.mono le⟩
    | obj C dx fs => rintro ⟨vs, z3, z4⟩; exact ⟨vs, z3, z4.mono le⟩
theorem wx_newlist (hk : ∀ p, κx.nx (ρ.set i (some (.val (.ref p)))) ((p, .list []) :: O) B) : WOw K E e (tAsg (tLst tNil) (gName i)) ρ B O κx := fun σ H G Dn G0 H0 B0 en ow ex x q => by
  refine ⟨by decide, fun p hp => ?_⟩
  exact q.nx _ _ _ B G _ (hk p) (ex.trans (Ext.hid ex.sub hp)) (EnvR.set (d := .val (.ref p)) (v := .ref p) rfl i en) (owns_cons ow ex hp ⟨[], upd_same, rfl⟩)
theorem own_at {G0 H0 G H : Hp} {o : OC} (ow : Owns K G0 H0 G H B O) (hn : O[n]? = some (p, o)) : NoH0 G0 H0 p ∧ G p = none ∧ Own1 K G H B p o := ow.at_ (p, o) (List.mem_of_getElem? hn)
theorem putK_new {l : List (List Key × Int)} {c : List Key} {z : Int} (hc : ∀ x ∈ l, x.1 ≠ c) : putK (l.map kvI) c (.int z) = (l ++ [(c, z)]).map kvI := by
  unfold putK
  rw [if_neg (by
    rw [List.any_eq_true]
    rintro ⟨y, hy, hd⟩
    obtain ⟨x, hx, rfl⟩ := List.mem_map.mp hy
    exact hc x hx (of_decide_eq_true hd)), List.map_append]
  rfl
end
end AW

set_option linter.all false
set_option maxRecDepth 100000
set_option maxHeartbeats 4000000
namespace AW
open PySem PySem.Spec PyProof.Rows L2 RZ LamX
variable [Tbs]
section
variable {K : PySem.W.Frag} {E E' : XK} {e : EW} {ρ : List (Option D)} {B : Int} {k : KD} {κ : KS} {κx : KX} {ta tb tc tl te ti : TE} {tt : TT} {t : TA} {s ts us tbody : TS} {g : TG} {i j n : Nat} {ds : List D} {O : List (Addr × OC)} {p : Addr} {l : List (List Key × Int)} {es : List D}
abbrev IX := Nat → List (Option D) → List (Addr × OC) → Int → Prop
/-- the state of a loop -/
def PX (K : PySem.W.Frag) (I : IX) (G0 H0 : Hp) (B0 : Int) (n : Nat) (σ : L2.St) (H : Hp) : Prop := ∃ ρ' O' B' G', I n ρ' O' B' ∧ Ext G0 H0 B0 G' H B' ∧ EnvR K G' B' ρ' σ ∧ Owns K G0 H0 G' H B' O'
theorem px_step {I : IX} {G0 H0 : Hp} {B0 : Int} {Dn : Ends} {m : Nat} {d : D} {v : V} {σ : L2.St} {H : Hp} {ρ' : List (Option D)} {O' : List (Addr × OC)} {B' : Int} {G' : Hp} (hI : I m ρ' O' B') (e0 : Ext G0 H0 B0 G' H B') (en : EnvR K G' B' ρ' σ) (ow : Owns K G0 H0 G' H B' O') (rv : Rep K G' B' d v)
    (x : XOk K E e G0 H0 B0) (q : XEnds K κx Dn G0 H0 B0) (hs : Wg K g d ρ' B' fun ρ2 B2 => WOw K E e tbody ρ2 B2 O' { nx := I (m + 1), rt := κx.rt, bk := κx.nx, ct := I (m + 1) }) :
    g v σ H fun σ2 H2 => tbody { Dn with nx := PX K I G0 H0 B0 (m + 1), ct := PX K I G0 H0 B0 (m + 1), bk := Dn.nx } σ2 H2 := by
  refine hs v σ H G' _ e0.sub en rv fun ρ2 σ2 B2 G2 H2 h2 e3 en3 => ?_
  exact h2 σ2 H2 G2 _ G0 H0 B0 en3 (ow.ext e3) (e0.trans e3) x ⟨fun ρ3 O3 σ3 B3 G3 H3 h3 e4 en4 ow4 => ⟨ρ3, O3, B3, G3, h3, e4, en4, ow4⟩, q.rt, q.nx, fun ρ3 O3 σ3 B3 G3 H3 h3 e4 en4 ow4 => ⟨ρ3, O3, B3, G3, h3, e4, en4, ow4⟩⟩
theorem wx_for_str (h : We K E e te ρ B fun d B1 => ∃ z : Str, d = .str z ∧ ∃ I : IX, I 0 ρ O B1 ∧ (∀ n c ρ' O' B', (chS z)[n]? = some c → I n ρ' O' B' → Wg K g (.str c) ρ' B' fun ρ2 B2 => WOw K E e tbody ρ2 B2 O' { nx := I (n + 1), rt := κx.rt, bk := κx.nx, ct := I (n + 1) }) ∧ ∀ ρ' O' B', I (chS z).length ρ' O' B' → κx.nx ρ' O' B') :
    WOw K E e (tFor (iStr te) g tbody) ρ B O κx := fun σ H G Dn G0 H0 B0 en ow ex x q =>
  h σ H G _ ex.sub en (x.ext ex) fun d v B1 G1 H1 ⟨z, ed, I, i0, hs, hd⟩ e1 r1 => by
    subst ed
    rw [show v = _ from r1]
    rw [chS_len] at hd
    refine ⟨z, rfl, for_it walk_str (PX K I G0 H0 B0) ⟨ρ, O, B1, G1, i0, ex.trans e1, en.mono e1.le, ow.ext e1⟩ (fun _ _ _ _ _ => trivial) ?_ ?_⟩
    · rintro n y σ' H' H'' hn ⟨ρ', O', B', G', hI, e0, en2, ow2⟩ ⟨eH, c, hc, ey⟩
      subst eH ey
      exact px_step (d := .str ⟨#[c]⟩) hI e0 en2 ow2 rfl x q (hs n _ ρ' O' B' (chS_get hc) hI)
    · rintro σ' H' ⟨ρ', O', B', G', hI, e0, en2, ow2⟩
      exact q.nx _ _ _ _ _ _ (hd _ _ _ hI) e0 en2 ow2
end
end AW

set_option linter.all false
set_option maxRecDepth 100000
set_option maxHeartbeats 4000000
namespace AW
open PySem PySem.Spec PyProof.Rows L2 RZ LamX
variable [Tbs]
def putD (l : List (List Key × D)) (c : List Key) (d : D) : List (List Key × D) := if (l.any fun x => decide (x.1 = c)) = true then l.map (fun x => if x.1 = c then (x.1, d) else x) else l ++ [(c, d)]
section
variable {K : PySem.W.Frag} {E E' : XK} {e : EW} {ρ : List (Option D)} {B : Int} {k : KD} {κ : KS} {κx : KX} {ta tb tc tl te ti : TE} {tt : TT} {t : TA} {s ts us tbody : TS} {g : TG} {i j n : Nat} {ds : List D} {O : List (Addr × OC)} {p : Addr} {l : List (List Key × D)} {es : List D} {r : R2}
theorem any_zip : ∀ {l : List (List Key × D)} {vs : List V} (c : List Key), l.length = vs.length → ((l.map (·.1)).zip vs).any (fun kv => decide (kv.1 = c)) = l.any fun x => decide (x.1 = c)
  | [], [], _, _ => rfl
  | [], _ :: _, _, h => nomatch h
  | _ :: _, [], _, h => nomatch h
  | x :: l, v :: vs, c, h => by
    rw [List.map_cons, List.zip_cons_cons, List.any_cons, List.any_cons, any_zip c (Nat.succ.inj h)]
theorem map_zip {G : Hp} {d : D} {v : V} (rv : Rep K G B d v) (c : List Key) : ∀ {l : List (List Key × D)} {vs : List V}, RepL K G B (l.map (·.2)) vs → ∃ vs', ((l.map (·.1)).zip vs).map (fun kv => if kv.1 = c then (kv.1, v) else kv) = ((l.map fun x => if x.1 = c then (x.1, d) else x).map (·.1)).zip vs' ∧ RepL K G B ((l.map fun x => if x.1 = c then (x.1, d) else x).map (·.2)) vs'
  | [], vs, h => ⟨[], by rfl, rfl⟩
  | x :: l, vs, h => by
    obtain ⟨u, w, rfl, h1, h2⟩ := h
    obtain ⟨vs', e1, e2⟩ := map_zip rv c h2
    by_cases q : x.1 = c
    · refine ⟨v :: vs', ?_, ?_⟩
      · simp only [List.map_cons, List.zip_cons_cons, if_pos q, e1]
      · simp only [List.map_cons, if_pos q]; exact ⟨_, _, rfl, rv, e2⟩
    · refine ⟨u :: vs', ?_, ?_⟩
      · simp only [List.map_cons, List.zip_cons_cons, if_neg q, e1]
      · simp only [List.map_cons, if_neg q]; exact ⟨_, _, rfl, h1, e2⟩
theorem putK_D {G : Hp} {d : D} {v : V} {vs : List V} (rv : Rep K G B d v) (c : List Key) (hr : RepL K G B (l.map (·.2)) vs) : ∃ vs', putK ((l.map (·.1)).zip vs) c v = ((putD l c d).map (·.1)).zip vs' ∧ RepL K G B ((putD l c d).map (·.2)) vs' := by
  have hl : l.length = vs.length := by have := hr.length; rwa [List.length_map] at this
  unfold putK putD
  rw [any_zip c hl]
  by_cases q : (l.any fun x => decide (x.1 = c)) = true
  · rw [if_pos q, if_pos q]; exact map_zip rv c hr
  · rw [if_neg q, if_neg q]
    refine ⟨vs ++ [v], ?_, ?_⟩
    · rw [List.map_append, List.zip_append (by rw [List.length_map]; exact hl)]; rfl
    · rw [List.map_append]; exact hr.append ⟨v, [], rfl, rv, rfl⟩
/-- an expression while things are owned -/
def WeO (K : PySem.W.Frag) (E : XK) (e : EW) (t : TE) (ρ : List (Option D)) (B : Int) (O : List (Addr × OC)) (k : KD) : Prop := ∀ σ H G G0 H0 B0 Q, EnvR K G B ρ σ → Owns K G0 H0 G H B O → Ext G0 H0 B0 G H B → XOk K E e G0 H0 B0 → KOk K k Q G H B → t σ H Q
theorem weo_we (h : We K E e ta ρ B k) : WeO K E e ta ρ B O k := fun σ H G G0 H0 B0 Q en ow ex x q => h σ H G Q ex.sub en (x.ext ex) q
theorem weo_op (h : WeO K E e ta ρ B O fun d1 B1 => WeO K E e tb ρ B1 O fun d2 B2 => Ro K E e r d1 d2 B2 k) : WeO K E e (tOp r ta tb) ρ B O k := fun σ H G G0 H0 B0 Q en ow ex x q =>
  h σ H G G0 H0 B0 _ en ow ex x fun d1 v1 B1 G1 H1 h1 e1 r1 => h1 σ H1 G1 G0 H0 B0 _ (en.mono e1.le) (ow.ext e1) (ex.trans e1) x fun d2 v2 B2 G2 H2 h2 e2 r2 =>
    h2 v1 v2 H2 G2 _ e2.sub (r1.mono e2.le) r2 (x.ext (ex.trans (e1.trans e2))) (q.ext (e1.trans e2))
/-- d.get(k, z), d owned -/
theorem weo_get2 (hn : O[n]? = some (p, .dictD l)) (hi : ρ[i]? = some (some (.val (.ref p)))) (h : We K E e tb ρ B fun kd B1 => ∃ c, kd = .kt c ∧ We K E e tc ρ B1 fun z B2 => k ((lkD l c).getD z) B2) : WeO K E e (tDGet2 (tVar i) tb tc) ρ B O k := fun σ H G G0 H0 B0 Q en ow ex x q => by
  obtain ⟨v0, hv0, e0⟩ := en.get hi
  rw [show v0 = _ from e0] at hv0
  obtain ⟨_, _, vs0, hD0, _⟩ := own_at ow hn
  refine ⟨.ref p, hv0, p, rfl, .inr ⟨_, .inl hD0⟩, h σ H G _ ex.sub en (x.ext ex) fun kd y B1 G1 H1 ⟨c, ek, h2⟩ e1 r1 => h2 σ H1 G1 _ e1.sub (en.mono e1.le) (x.ext (ex.trans e1)) fun z w B2 G2 H2 hk e2 r2 => ?_⟩
  subst ek
  obtain ⟨b, rfl, hb⟩ := r1.mono e2.le
  obtain ⟨_, _, vs, hD, hr⟩ := own_at (ow.ext (e1.trans e2)) hn
  obtain ⟨o, ho, hs, hS, hN⟩ := dt_get hr c
  refine ⟨o, .inr ⟨_, c, b, .inl hD, rfl, e2.sub _ _ hb, ho.symm⟩, q _ _ _ _ _ hk (e1.trans e2) ?_⟩
  cases el : lkD l c with
  | none => rw [hN el]; exact r2
  | some d => obtain ⟨v, hv, rv⟩ := hS d el; rw [hv]; exact rv
theorem wx_newD1 (h : We K E e ta ρ B fun d B1 => ∃ c, d = .kt c ∧ We K E e tb ρ B1 fun d2 B2 => ∀ p, κx.nx (ρ.set i (some (.val (.ref p)))) ((p, .dictD [(c, d2)]) :: O) B2) : WOw K E e (tAsg (tDisp1T ta tb) (gName i)) ρ B O κx := fun σ H G Dn G0 H0 B0 en ow ex x q p hp => by
  have eh : Ext G H B G (upd H p (.dT [])) B := Ext.hid ex.sub hp
  refine h σ _ G _ eh.sub en (x.ext (ex.trans eh)) fun d v B1 G1 H1 ⟨c, ed, h2⟩ e1 r1 => h2 σ H1 G1 _ e1.sub (en.mono e1.le) (x.ext (ex.trans (eh.trans e1))) fun d2 v2 B2 G2 H2 hk e2 r2 => ?_
  subst ed
  obtain ⟨b, rfl, hb⟩ := r1.mono e2.le
  have gp := none_sub ex.sub hp
  have e12 := e1.trans e2
  obtain ⟨f1, f2⟩ := e12.fr p (.dT []) upd_same gp ⟨(fun _ z => nomatch z), fun _ z => nomatch z⟩
  have np := noH0 ex hp
  refine ⟨f1, b, c, rfl, e2.sub _ _ hb, ?_⟩
  have ow1 : Owns K G0 H0 G (upd H p (.dT [])) B ((p, .dictD []) :: O) := owns_cons ow ex hp ⟨[], upd_same, rfl⟩
  have ow2 := ow1.ext e12
  refine q.nx _ ((p, .dictD [(c, d2)]) :: O) _ B2 G2 _ (hk p) (((ex.trans eh).trans e12).chgN np f2) (EnvR.set (d := .val (.ref p)) (v := .ref p) rfl i (en.mono e12.le)) ?_
  exact owns_set (n := 0) (o' := .dictD [(c, d2)]) ow2 rfl ⟨[v2], upd_same, v2, [], rfl, r2, rfl⟩
theorem wx_newD0 (hk : ∀ p, κx.nx (ρ.set i (some (.val (.ref p)))) ((p, .dictD []) :: O) B) : WOw K E e (tAsg tDNewT (gName i)) ρ B O κx := fun σ H G Dn G0 H0 B0 en ow ex x q p hp =>
  q.nx _ _ _ B G _ (hk p) (ex.trans (Ext.hid ex.sub hp)) (EnvR.set (d := .val (.ref p)) (v := .ref p) rfl i en) (owns_cons ow ex hp ⟨[], upd_same, rfl⟩)
/-- d[k] = v, d owned -/
theorem wx_putD (hn : O[n]? = some (p, .dictD l)) (hi : ρ[i]? = some (some (.val (.ref p)))) (h : WeO K E e ta ρ B O fun d B1 => We K E e tb ρ B1 fun d2 B2 => ∃ c, d2 = .kt c ∧ l.length < sizeLine ∧ κx.nx ρ (O.set n (p, .dictD (putD l c d))) B2) : WOw K E e (sDPut (tVar i) tb ta) ρ B O κx := fun σ H G Dn G0 H0 B0 en ow ex x q => by
  obtain ⟨v0, hv0, e0⟩ := en.get hi
  rw [show v0 = _ from e0] at hv0
  refine h σ H G G0 H0 B0 _ en ow ex x fun d v B1 G1 H1 h2 e1 r1 => ⟨.ref p, hv0, h2 σ H1 G1 _ e1.sub (en.mono e1.le) (x.ext (ex.trans e1)) fun d2 v2 B2 G2 H2 ⟨c, ed2, hl, hk⟩ e2 r2 => ?_⟩
  subst ed2
  obtain ⟨b, rfl, hb⟩ := r2
  have e12 := e1.trans e2
  obtain ⟨np, gp, vs, hD, hr⟩ := own_at (ow.ext e12) hn
  have hlen : ((l.map (·.1)).zip vs).length < sizeLine := by rw [List.length_zip, List.length_map]; omega
  obtain ⟨vs', e3, r3⟩ := putK_D (r1.mono e2.le) c hr
  refine ⟨p, _, rfl, .inr ⟨_, c, b, hD, rfl, e2.sub _ _ hb, hlen, rfl⟩, ?_⟩
  rw [e3]
  exact q.nx _ _ σ B2 G2 _ hk ((ex.trans e12).chgN np gp) (en.mono e12.le) (owns_set (ow.ext e12) hn ⟨vs', upd_same, r3⟩)
/-- the dict owned is told from here on -/
theorem wx_tellDD (hi : ρ[i]? = some (some (.val (.ref p)))) (h : WOw K E e s (ρ.set i (some (dtD false l))) B O κx) : WOw K E e s ρ B ((p, .dictD l) :: O) κx := fun σ H G Dn G0 H0 B0 en ow ex x q => by
  obtain ⟨v0, hv0, e0⟩ := en.get hi
  rw [show v0 = _ from e0] at hv0
  obtain ⟨np, gp, vs, hD, hr⟩ := own_at (n := 0) ow rfl
  obtain ⟨ex2, ow2, le⟩ := owns_tell ow ex hD
  have hlen := hr.length
  have en2 := EnvR.set (d := dtD false l) (v := .ref p) ⟨p, vs, rfl, .inl upd_same, by rw [List.length_map] at hlen ⊢; exact hlen, hr.mono le⟩ i (en.mono le)
  rw [set_id hv0] at en2
  exact h σ H _ Dn G0 H0 B0 en2 ow2 ex2 x q
end
end AW

set_option linter.all false
set_option maxRecDepth 100000
set_option maxHeartbeats 4000000
namespace AW
open PySem PySem.Spec PyProof.Rows L2 RZ LamX
variable [Tbs]
def rgI (a b : Int) : List Int := (List.range (b - a).toNat).map fun i => a + (i : Nat)
theorem rgI_mem {a b z : Int} : z ∈ rgI a b ↔ a ≤ z ∧ z < b := by
  unfold rgI
  rw [List.mem_map]
  constructor
  · rintro ⟨i, hi, rfl⟩
    rw [List.mem_range] at hi
    omega
  · rintro ⟨h1, h2⟩
    exact ⟨(z - a).toNat, by rw [List.mem_range]; omega, by omega⟩
section
variable {K : PySem.W.Frag} {E E' E1 : XK} {e : EW} {ρ : List (Option D)} {B : Int} {k : KD} {ta tb tc : TE} {t : TA} {r r' : R2}
theorem we_listRg2 (h : We K E e ta ρ B fun d1 B1 => We K E e tb ρ B1 fun d2 B2 => ∃ i j : Int, d1 = .int i ∧ d2 = .int j ∧ RgOk i j ∧ k (.lst ((rgI i j).map D.int)) B2) : We K E e (tLstRg (tRg2 ta tb)) ρ B k := fun σ H G Q s en x q =>
  h σ H G _ s en x fun d1 v1 B1 G1 H1 h1 e1 r1 => h1 σ H1 G1 _ e1.sub (en.mono e1.le) (x.ext e1) fun d2 v2 B2 G2 H2 ⟨i, j, ed1, ed2, ok, hk⟩ e2 r2 => by
    subst ed1 ed2
    refine ⟨i, j, r1, r2, ok, fun p hp => ?_⟩
    have ev : rgV i j = (rgI i j).map V.int := by unfold rgV rgI; rw [List.map_map]; rfl
    rw [ev]
    exact q _ _ _ _ _ hk ((e1.trans e2).trans (Ext.new (e1.trans e2).sub hp)) ⟨p, _, rfl, upd_same, RepL.ints _⟩
end
end AW

set_option linter.all false
set_option maxRecDepth 100000
set_option maxHeartbeats 4000000
namespace AW
open PySem PySem.Spec PyProof.Rows L2 RZ LamX
variable [Tbs]
section
variable {K : PySem.W.Frag}
variable {E E' : XK} {e : EW} {ρ : List (Option D)} {B : Int} {k : KD} {κ : KS} {κx : KX} {ta tb tc tl te ti : TE} {tt : TT} {t : TA} {s ts us tbody : TS} {g : TG} {i j n : Nat} {ds : List D} {O : List (Addr × OC)} {p : Addr} {l : List (List Key × Int)} {es : List D}
abbrev PrO := List D → Int → (List D → Int → Prop) → EW → Prop
/-- an owned list comes back -/
def ROk (K : PySem.W.Frag) (ko : List D → Int → Prop) (Q : VK) (G0 H0 : Hp) (B0 : Int) : Prop := ∀ es us p B' G' H', ko es B' → Ext G0 H0 B0 G' H' B' → NoH0 G0 H0 p → G' p = none → H' p = some (.lst us) → RepL K G' B' es us → Q (.ref p) H'
def spO (K : PySem.W.Frag) (pr : PrO) : Sp := fun vs H Q E => ∃ G ds B ko e, Sub G H ∧ RepL K G B ds vs ∧ pr ds B ko e ∧ ROk K ko Q G H B ∧ XOk K E e G H B
theorem spO_len {pr : PrO} {n : Nat} (h : ∀ ds B k e, pr ds B k e → ds.length = n) : ∀ vs H Q E, spO K pr vs H Q E → vs.length = n := fun vs H Q E ⟨G, ds, B, k, e, _, r, p, _⟩ => by
  rw [← r.length]
  exact h _ _ _ _ p
def WOr (K : PySem.W.Frag) (E : XK) (e : EW) (t : TS) (ρ : List (Option D)) (B : Int) (O : List (Addr × OC)) (ko : List D → Int → Prop) : Prop :=
  ∀ σ H G Dn G0 H0 B0, EnvR K G B ρ σ → Owns K G0 H0 G H B O → Ext G0 H0 B0 G H B → XOk K E e G0 H0 B0 → ROk K ko Dn.rt G0 H0 B0 → t Dn σ H
theorem wr_seq {ko : List D → Int → Prop} (h : WOw K E e s ρ B O { nx := fun ρ' O' B' => WOr K E e us ρ' B' O' ko, rt := fun _ _ => False }) : WOr K E e (tSeq s us) ρ B O ko := fun σ H G Dn G0 H0 B0 en ow ex x q =>
  h σ H G _ G0 H0 B0 en ow ex x ⟨fun ρ' O' σ' B' G' H' h1 e1 en1 ow1 => h1 σ' H' G' Dn G0 H0 B0 en1 ow1 e1 x q, fun _ _ _ _ _ h => h.elim, fun _ _ _ _ _ _ h => h.elim, fun _ _ _ _ _ _ h => h.elim⟩
theorem wr_ret {ko : List D → Int → Prop} (hn : O[n]? = some (p, .list es)) (hi : ρ[i]? = some (some (.val (.ref p)))) (hk : ko es B) : WOr K E e (tRet (tVar i)) ρ B O ko := fun σ H G Dn G0 H0 B0 en ow ex x q => by
  obtain ⟨v0, hv0, e0⟩ := en.get hi
  rw [show v0 = _ from e0] at hv0
  obtain ⟨np, gp, vs, hL, hr⟩ := own_at ow hn
  exact ⟨.ref p, hv0, q es vs p B G H hk ex np gp hL hr⟩
theorem run_bodyO {N : List Str} {ts : TS} {G H : Hp} {ds : List D} {vs : List V} {Q : VK} {ko : List D → Int → Prop} (hs : Sub G H) (hr : RepL K G B ds vs) (hk : ROk K ko Q G H B) (hx : XOk K E e G H B) (hN : startD N ds = ρ) (h : WOr K E e ts ρ B [] ko) :
    ts { nx := fun _ H' => Q .non H', rt := Q } (L2.start N vs) H := by
  subst hN
  refine h _ H G _ G H B ?_ ⟨List.nodup_nil, fun x hx => nomatch hx⟩ (Ext.refl hs) hx hk
  unfold startD L2.start
  rw [hr.length]
  exact EnvR.of_vals _ hr
theorem ext_tellN {G0 H0 G H : Hp} {B0 B' : Int} {a : Addr} {u : HO} (ex : Ext G0 H0 B0 G H B') (np : NoH0 G0 H0 a) (gp : G a = none) (hu : H a = some u) : Ext G0 H0 B0 (upd G a u) H B' ∧ Le G B' (upd G a u) B' := by
  have le : Le G B' (upd G a u) B' := Le.of_sub (fun b o z => by rw [upd_ne (ne_of_none z gp)]; exact z) (Int.le_refl _)
  refine ⟨⟨ex.le.trans le, fun b o z => ?_, fun b o z n t => ?_⟩, le⟩
  · by_cases w : b = a
    · subst w; rw [upd_same] at z; cases z; exact hu
    · rw [upd_ne w] at z; exact ex.sub _ _ z
  · rw [upd_ne (fun w => by subst w; exact np o z n t)]; exact ex.fr _ _ z n t
theorem rok_kok {Q : VK} {G H : Hp} (q : KOk K k Q G H B) : ROk K (fun es B' => k (.lst es) B') Q G H B := fun es us p B' G' H' hk ex np gp hL hr => by
  obtain ⟨ex2, le⟩ := ext_tellN ex np gp hL
  exact q _ _ _ _ _ hk ex2 ⟨p, us, rfl, upd_same, hr.mono le⟩
theorem we_callO {pr : PrO} (h : Wa K E e t ρ B fun ds B1 => pr ds B1 (fun es B2 => k (.lst es) B2) noE) : We K E e (tCall (spO K pr) [] E' t) ρ B k := fun σ H G Q s en x q =>
  h σ H G _ s en x fun ds vs B1 G1 H1 h1 e1 r1 => by
    show spO K pr (vs ++ []) H1 Q E'
    rw [List.append_nil]
    exact ⟨G1, ds, B1, _, noE, e1.sub, r1, h1, rok_kok (q.ext e1), XOk.no⟩
theorem wx_for_range2 (h : Wa K E e t ρ B fun as B1 => ∃ lo hi : Int, as = [.int lo, .int hi] ∧ (-(2 ^ 62) ≤ lo ∧ lo < 2 ^ 62 ∧ -(2 ^ 62) ≤ hi ∧ hi < 2 ^ 62) ∧ ∃ I : IX, I 0 ρ O B1 ∧ (∀ n ρ' O' B', n < (hi - lo).toNat → I n ρ' O' B' → Wg K g (.int (lo + n)) ρ' B' fun ρ2 B2 => WOw K E e tbody ρ2 B2 O' { nx := I (n + 1), rt := κx.rt, bk := κx.nx, ct := I (n + 1) }) ∧ ∀ ρ' O' B', I (hi - lo).toNat ρ' O' B' → κx.nx ρ' O' B') :
    WOw K E e (tFor (iRng2 t) g tbody) ρ B O κx := fun σ H G Dn G0 H0 B0 en ow ex x q =>
  h σ H G _ ex.sub en (x.ext ex) fun as vs B1 G1 H1 ⟨lo, hi, ed, hb, I, i0, hs, hd⟩ e1 r1 => by
    subst ed
    obtain ⟨v, _, rfl, rv, u, _, rfl, ru, rfl⟩ := r1
    rw [show v = _ from rv, show u = _ from ru]
    refine ⟨lo, hi, rfl, hb, for_it walk_range (PX K I G0 H0 B0) ⟨ρ, O, B1, G1, i0, ex.trans e1, en.mono e1.le, ow.ext e1⟩ (fun _ _ _ _ _ => trivial) ?_ ?_⟩
    · rintro n y σ' H' H'' hn ⟨ρ', O', B', G', hI, e0, en2, ow2⟩ ⟨eH, ey⟩
      subst eH ey
      exact px_step (d := .int (lo + n)) hI e0 en2 ow2 rfl x q (hs n ρ' O' B' hn hI)
    · rintro σ' H' ⟨ρ', O', B', G', hI, e0, en2, ow2⟩
      exact q.nx _ _ _ _ _ _ (hd _ _ _ hI) e0 en2 ow2
/-- l.extend(x) -/
theorem wx_extend (hn : O[n]? = some (p, .list es)) (hi : ρ[i]? = some (some (.val (.ref p)))) (h : We K E e ta ρ B fun d B1 => ∃ ds, d = .lst ds ∧ es.length + ds.length ≤ sizeLine ∧ κx.nx ρ (O.set n (p, .list (es ++ ds))) B1) : WOw K E e (tDrop (tBM K "list" rExtend (tVar i) (tCons ta tNil))) ρ B O κx := fun σ H G Dn G0 H0 B0 en ow ex x q => by
  obtain ⟨v0, hv0, e0⟩ := en.get hi
  rw [show v0 = _ from e0] at hv0
  obtain ⟨np, gp, vs, hL, hr⟩ := own_at ow hn
  refine ⟨.ref p, hv0, .inl ⟨rfl, vs, SqL.of hL⟩, h σ H G _ ex.sub en (x.ext ex) fun d v B1 G1 H1 ⟨ds, ed, hl, hk⟩ e1 r1 => ?_⟩
  subst ed
  obtain ⟨b, us, rfl, hb, hbr⟩ := r1
  obtain ⟨z1, z2⟩ := e1.fr p _ hL gp ⟨(fun _ z => nomatch z), fun _ z => nomatch z⟩
  refine ⟨p, b, vs, us, rfl, rfl, z1, e1.sub _ _ hb, by rw [← hr.length, ← hbr.length]; exact hl, ?_⟩
  exact q.nx _ _ σ B1 G1 _ hk ((ex.trans e1).chgN np z2) (en.mono e1.le) (owns_set (ow.ext e1) hn ⟨_, upd_same, (hr.mono e1.le).append hbr⟩)
def PXd (K : PySem.W.Frag) (I : Nat → KE') (G0 H0 : Hp) (B0 : Int) (n : Nat) (σ : L2.St) (H : Hp) : Prop := ∃ ρ' B' G', I n ρ' B' ∧ Ext G0 H0 B0 G' H B' ∧ EnvR K G' B' ρ' σ
/-- for k in d, d told: locked meanwhile -/
theorem ws_for_dt {kss : List (List Key)} {ds : List D} (hi : ρ[i]? = some (some (.dt false kss ds))) (hno : ∀ u, lkOkE false (ρ.set i (some (.at_ u (.dt true kss ds)))) = true)
    (h : ∀ u : V, ∃ I : Nat → KE', I 0 (ρ.set i (some (.at_ u (.dt true kss ds)))) B ∧ (∀ n ρ' B', I n ρ' B' → ρ'[i]? = some (some (.at_ u (.dt true kss ds)))) ∧ (∀ n c ρ' B', kss[n]? = some c → I n ρ' B' → Wg K g (.kt c) ρ' B' fun ρ2 B2 => Ws K E noE tbody ρ2 B2 { nx := I (n + 1), rt := fun _ _ => False, bk := fun _ _ => False, ct := I (n + 1) }) ∧ ∀ ρ' B', I kss.length ρ' B' → lkOkE true ρ' = true ∧ κ.nx (ρ'.set i (some (.dt false kss ds))) B') :
    Ws K E e (tLock (tFor (iKeys (tVar i)) g tbody)) ρ B κ := fun σ H G Dn s en x q => by
  obtain ⟨v0, hv0, a, vs, rfl, ha, hn, hr⟩ := en.get hi
  have ha : G a = some (.dT (kss.zip vs)) := ha.elim id fun z => nomatch z.1
  have lz : (kss.zip vs).length = kss.length := by rw [List.length_zip, hn]; simp
  refine ⟨a, _, s _ _ ha, trivial, fun od => ?_⟩
  obtain ⟨I, i0, hI, hs, hd⟩ := h (.ref a)
  have lw := lw_lock (B := B) (od := od) ha
  have sub1 := sub_lock (a := a) (o := .frz od (.dT (kss.zip vs))) s
  have en0 : EnvR K G B (ρ.set i (some (.at_ (.ref a) (.dt true kss ds)))) σ := by
    have e1 : EnvR K G B (ρ.set i (some (.at_ (.ref a) (.dt true kss ds)))) (σ.set i (some (.ref a))) := EnvR.set (d := .at_ (.ref a) (.dt true kss ds)) (v := .ref a) ⟨rfl, a, vs, rfl, .inl ha, hn, hr⟩ i en
    rwa [set_id hv0] at e1
  have en1 : EnvR K (upd G a (.frz od (.dT (kss.zip vs)))) B (ρ.set i (some (.at_ (.ref a) (.dt true kss ds)))) σ := EnvR.weak lw (hno _) en0
  refine ⟨.ref a, hv0, a, od, rfl, .inr ⟨_, upd_same, ?_⟩⟩
  have frz : ∀ {G' H' : Hp} {B' : Int}, Ext (upd G a (.frz od (.dT (kss.zip vs)))) (upd H a (.frz od (.dT (kss.zip vs)))) B G' H' B' → H' a = some (.frz od (.dT (kss.zip vs))) := fun e1 => e1.sub _ _ (e1.le.keep a _ upd_same nopen_frz)
  refine for_it walk_keysT (PXd K I (upd G a (.frz od (.dT (kss.zip vs)))) (upd H a (.frz od (.dT (kss.zip vs)))) B) ⟨_, B, _, i0, Ext.refl sub1, en1⟩ (fun m σ' H' _ ⟨ρ', B', G', hI', e1, en'⟩ => frz e1) ?_ ?_
  · rintro m y σ' H' H'' hm ⟨ρ', B', G', hI', e1, en'⟩ ⟨eH, c, v, b, hc, ey, hb⟩
    subst eH ey
    have hx : kss[m]? = some c := by
      rw [List.getElem?_zip_eq_some] at hc
      exact hc.1
    have eL := Ext.learn (B := B') e1.sub hb
    refine hs m c ρ' B' hx hI' (.ref b) σ' H'' _ _ eL.sub (en'.mono eL.le) (show Rep K _ B' (.kt c) (.ref b) from ⟨b, rfl, upd_same⟩) fun ρ2 σ2 B2 G2 H2 h2 e3 en3 => ?_
    refine h2 σ2 H2 G2 _ e3.sub en3 XOk.no ⟨fun ρ3 σ3 B3 G3 H3 h3 e4 en4 => ⟨ρ3, B3, G3, h3, e1.trans (eL.trans (e3.trans e4)), en4⟩, fun _ _ _ _ _ z => z.elim, fun _ _ _ _ _ z => z.elim, fun ρ3 σ3 B3 G3 H3 h3 e4 en4 => ⟨ρ3, B3, G3, h3, e1.trans (eL.trans (e3.trans e4)), en4⟩⟩
  · rintro σ' H' ⟨ρ', B', G', hI', e1, en'⟩
    rw [lz] at hI'
    obtain ⟨g1, h1, exu⟩ := ext_unlock s ha e1
    obtain ⟨hl, hk⟩ := hd _ _ hI'
    obtain ⟨v1, hv1, ev, _⟩ := en'.get (hI _ _ _ hI')
    subst ev
    have en2 := EnvR.set (d := .dt false kss ds) (v := .ref a) ⟨a, vs, rfl, .inl upd_same, hn, hr.mono exu.le⟩ i (EnvR.weak (lw_unlock (B := B') g1) hl en')
    rw [set_id hv1] at en2
    exact ⟨h1, q.nx _ _ _ _ _ hk exu en2⟩
theorem we_varA {u : V} {d : D} (h : ρ[i]? = some (some (.at_ u d))) (hk : k d B) : We K E e (tVar i) ρ B k := We.at (d := d) (fun σ H G s en => by
  obtain ⟨v, hv, e, r⟩ := en.get h
  exact ⟨v, r, fun Q q => ⟨_, hv, q⟩⟩) hk
end
end AW

set_option linter.all false
set_option maxRecDepth 100000
set_option maxHeartbeats 4000000
namespace AW
open PySem PySem.Spec PyProof.Rows L2 RZ LamX
variable [Tbs]
section
variable {K : PySem.W.Frag} {E E' : XK} {e : EW} {ρ : List (Option D)} {B : Int} {k : KD} {κ : KS} {ta tb tc : TE} {t : TA} {pr : Pr} {C : Addr} {kl : KL}
end
section
variable {K : PySem.W.Frag} {E E' : XK} {e : EW} {ρ : List (Option D)} {B : Int} {κx : KX} {tbody : TS} {g : TG} {i j n : Nat} {ds : List D} {O : List (Addr × OC)}
end
section
variable {K : PySem.W.Frag} {E : XK} {e : EW} {ρ : List (Option D)} {B : Int} {k : KD} {ta : TE} {t : Value} {b : Bool} {c1 c2 c3 : String}
theorem we_lenStr {ta : TA} (h : Wa K E e ta ρ B fun ds B1 => ∃ z : Str, ds = [.str z] ∧ z.length ≤ sizeLine ∧ k (.int z.length) B1) : We K E e (tCB (fun xs H Q => ∃ z, xs = [.str z] ∧ z.length ≤ sizeLine ∧ Q (.int z.length) H) ta) ρ B k :=
  we_cb fun σ H G Q s en x q => h σ H G Q s en x fun ds vs B1 G1 H1 ⟨z, ed, hz, hk⟩ e1 r1 => q ds vs B1 G1 H1 (fun ws H2 G2 Q2 s2 r2 q2 => by
    subst ed
    obtain ⟨v, _, rfl, rv, rfl⟩ := r2
    rw [show v = _ from rv]
    exact ⟨z, rfl, hz, q2 _ _ _ _ _ hk (Ext.refl s2) rfl⟩) e1 r1
end
section
variable {K : PySem.W.Frag} {E E' : XK} {e : EW} {ρ : List (Option D)} {B : Int} {κx : KX} {tbody : TS} {g : TG} {i j n : Nat} {ds : List D} {O : List (Addr × OC)} {C : Addr} {f : Str}
end
end AW

set_option linter.all false
set_option maxRecDepth 100000
set_option maxHeartbeats 4000000
namespace AW
open PySem PySem.Spec PyProof.Rows L2 RZ LamX
variable [Tbs]
section
variable {K : PySem.W.Frag} {E E' : XK} {e : EW} {ρ : List (Option D)} {B : Int} {k : KD} {κ : KS} {κx : KX} {ta tb tc tl te ti : TE} {tt : TT} {t : TA} {s ts us tbody : TS} {g : TG} {i j n : Nat} {ds : List D} {O : List (Addr × OC)} {p : Addr} {es : List D}
end
end AW

set_option linter.all false
set_option maxRecDepth 100000
set_option maxHeartbeats 4000000
namespace AW
open PySem PySem.Spec PyProof.Rows L2 RZ LamX
variable [Tbs]
section
variable {K : PySem.W.Frag} {E E' : XK} {e : EW} {ρ : List (Option D)} {B : Int} {k : KD} {κ : KS} {κx : KX} {ta tb tc tl te ti : TE} {tt : TT} {t : TA} {s ts us tbody : TS} {g : TG} {i j n : Nat} {ds : List D} {O : List (Addr × OC)} {p : Addr} {es : List D}
end
section
variable {K : PySem.W.Frag} {E E' E1 : XK} {e : EW} {ρ : List (Option D)} {B : Int} {k : KD} {κ : KS} {ta tb tl te : TE} {t : TA} {i j : Nat}
end
end AW

set_option linter.all false
set_option maxRecDepth 100000
set_option maxHeartbeats 4000000
namespace AW
open PySem PySem.Spec PyProof.Rows L2 RZ LamX
variable [Tbs]
section
variable {K : PySem.W.Frag} {E E' E1 : XK} {e : EW} {ρ : List (Option D)} {B : Int} {k : KD} {κ : KS} {κx : KX} {ta tb tc tl te ti : TE} {tt : TT} {t : TA} {s ts us tbody : TS} {g g1 g2 : TG} {i j n sl : Nat} {ds : List D} {O : List (Addr × OC)} {p : Addr} {es : List D} {t1 t2 : TI}
end
end AW

set_option linter.all false
set_option maxRecDepth 100000
set_option maxHeartbeats 4000000
namespace AW
open PySem PySem.Spec PyProof.Rows L2 RZ LamX
variable [Tbs]
section
variable {K : PySem.W.Frag} {E E' E1 : XK} {e : EW} {ρ : List (Option D)} {B : Int} {k : KD} {κ : KS} {κx : KX} {ta tb tc tl te ti : TE} {tt : TT} {t : TA} {s ts us tbody : TS} {g g1 g2 : TG} {i j n sl : Nat} {ds : List D} {O : List (Addr × OC)} {p : Addr} {es : List D} {t1 t2 : TI} {pr : Pr}
end
end AW

set_option linter.all false
set_option maxHeartbeats 2000000
namespace AW
open PySem PySem.Spec PyProof.Rows L2
variable [Tbs]
section
variable {P : Program} {w : World} {K : PySem.W.Frag} {mg : Str → Option Value} {base : Heap} {E E1 : XK} {e : EW} {ρ : List (Option D)} {B : Int} {k : KD} {tl te : TE} {tt : TT} {i j : Nat}
end
end AW

set_option linter.all false
set_option maxHeartbeats 2000000
namespace AW
open PySem PySem.Spec PyProof.Rows L2
variable [Tbs]
section
variable {P : Program} {w : World} {K : PySem.W.Frag} {mg : Str → Option Value} {base : Heap} {E E1 : XK} {e : EW} {ρ : List (Option D)} {B : Int} {k : KD} {ti : TE} {i j : Nat}
end
end AW

set_option linter.all false
set_option maxHeartbeats 2000000
namespace AW
open PySem PySem.Spec PyProof.Rows L2
variable [Tbs]
section
variable {P : Program} {w : World} {K : PySem.W.Frag} {mg : Str → Option Value} {base : Heap} {E E1 : XK} {e : EW} {ρ : List (Option D)} {B : Int} {k : KD} {κ : KS} {t : TA} {g : TG} {tb tbody : TS}
end
end AW

set_option linter.all false
set_option maxHeartbeats 2000000
namespace AW
open PySem PySem.Spec PyProof.Rows L2
variable [Tbs]
section
variable {P : Program} {w : World} {K : PySem.W.Frag} {mg : Str → Option Value} {base : Heap} {E E1 : XK} {e : EW} {ρ : List (Option D)} {B : Int} {k : KD} {ta tb tc ti : TE}
end
end AW

set_option linter.all false
set_option maxHeartbeats 2000000
namespace AW
open PySem PySem.Spec PyProof.Rows L2
variable [Tbs]
section
variable {P : Program} {w : World} {K : PySem.W.Frag} {mg : Str → Option Value} {base : Heap} {E E1 : XK} {e : EW} {ρ : List (Option D)} {B : Int} {k : KD} {ta tb tc ti : TE}
end
end AW

set_option linter.all false
set_option maxHeartbeats 2000000
namespace AW
open PySem PySem.Spec PyProof.Rows L2
variable [Tbs]
section
variable {P : Program} {w : World} {K : PySem.W.Frag} {mg : Str → Option Value} {base : Heap} {E E1 : XK} {e : EW} {ρ : List (Option D)} {B : Int} {k : KD} {κ : KS} {ta tb tc ti : TE} {i : Nat}
end
end AW

set_option linter.all false
set_option maxRecDepth 100000
set_option maxHeartbeats 4000000
namespace AW
open PySem PySem.Spec PyProof.Rows L2 RZ LamX
variable [Tbs]
section
variable {K : PySem.W.Frag}
variable {E E' : XK} {e : EW} {ρ : List (Option D)} {B : Int} {k : KD} {κ : KS} {κx : KX} {ta tb tc tl te ti : TE} {tt : TT} {t : TA} {s ts us tbody : TS} {g : TG} {i j n m sl : Nat} {ds : List D} {O : List (Addr × OC)} {p a : Addr} {es : List D}
end
end AW
namespace AW
open PySem PySem.Spec PyProof.Rows L2 RZ LamX
variable [Tbs]
end AW

set_option linter.all false
set_option maxRecDepth 100000
set_option maxHeartbeats 4000000
namespace AW
open PySem PySem.Spec PyProof.Rows L2 RZ LamX
variable [Tbs]
section
variable {K : PySem.W.Frag} {E E' : XK} {e : EW} {ρ : List (Option D)} {B : Int} {k : KD} {κ : KS} {κx : KX} {ta tb tc td tl te ti : TE} {tt : TT} {t : TA} {s ts us tbody : TS} {g : TG} {i j n m sl : Nat} {ds : List D} {O : List (Addr × OC)} {p a : Addr} {es : List D}
end
end AW

set_option linter.all false
set_option maxRecDepth 100000
set_option maxHeartbeats 4000000
namespace AW
open PySem PySem.Spec PyProof.Rows L2 RZ LamX
variable [Tbs]
section
variable {K : PySem.W.Frag}
variable {E E' : XK} {e : EW} {ρ : List (Option D)} {B : Int} {k : KD} {κ : KS} {κx : KX} {ta tb tc td tl te ti : TE} {tt : TT} {t : TA} {s ts us tbody : TS} {g : TG} {i j n m sl s1 s2 : Nat} {ds : List D} {O : List (Addr × OC)} {p a : Addr} {es : List D} {l : List (List L2.Key × D)}
end
end AW

set_option linter.all false
set_option maxRecDepth 100000
set_option maxHeartbeats 4000000
namespace AW
open PySem PySem.Spec PyProof.Rows L2 RZ LamX
variable [Tbs]
section
variable {K : PySem.W.Frag} {E E' : XK} {e : EW} {ρ : List (Option D)} {B : Int} {k : KD} {κ : KS} {κx : KX} {ta tb tc td tl te ti : TE} {tt : TT} {t : TA} {s ts us tbody : TS} {g : TG} {i j n m sl s1 s2 : Nat} {ds : List D} {O : List (Addr × OC)} {p a : Addr} {es : List D} {l : List (List L2.Key × D)}
end
end AW
namespace AW
open PySem PySem.Spec PyProof.Rows L2 RZ LamX
variable [Tbs]
end AW

set_option linter.all false
set_option maxRecDepth 100000
set_option maxHeartbeats 4000000
namespace AW
open PySem PySem.Spec PyProof.Rows L2 RZ LamX
variable [Tbs]
section
variable {K : PySem.W.Frag} {E E' : XK} {e : EW} {ρ : List (Option D)} {B : Int} {k : KD} {κ : KS} {ta tb tc : TE} {pr : Pr}
end
end AW
namespace AW
open PySem PySem.Spec PyProof.Rows L2 RZ LamX
variable [Tbs]
end AW

set_option linter.all false
set_option maxRecDepth 100000
set_option maxHeartbeats 4000000
namespace AW
open PySem PySem.Spec PyProof.Rows L2 RZ LamX
variable [Tbs]
abbrev OwL := List (Addr × OC)
abbrev KW := D → OwL → Int → Prop
abbrev KWB := Bool → OwL → Int → Prop
def KWOk (K : PySem.W.Frag) (k : KW) (Q : VK) (G : Hp) (B : Int) (G0 H0 : Hp) (B0 : Int) : Prop := ∀ d v O' B' G' H', k d O' B' → Le G B G' B' → Ext G0 H0 B0 G' H' B' → Rep K G' B' d v → Owns K G0 H0 G' H' B' O' → Q v H'
/-- an expression that may change what is owned -/
def WeW (K : PySem.W.Frag) (E : XK) (e : EW) (t : TE) (ρ : List (Option D)) (B : Int) (O : OwL) (k : KW) : Prop :=
  ∀ σ H G G0 H0 B0 Q, EnvR K G B ρ σ → Owns K G0 H0 G H B O → Ext G0 H0 B0 G H B → XOk K E e G0 H0 B0 → KWOk K k Q G B G0 H0 B0 → t σ H Q
section
variable {K : PySem.W.Frag} {E E' : XK} {e : EW} {ρ : List (Option D)} {B : Int} {κ : KS} {κx : KX} {ta tb tc tl te : TE} {t : TA} {c : TT} {s ts us tbody : TS} {g : TG} {i j n : Nat} {O : OwL} {p : Addr} {es : List D} {pr : Pr} {k : KW}
theorem WeW.imp {k' : KW} (h : WeW K E e ta ρ B O k) (f : ∀ d O' B', k d O' B' → k' d O' B') : WeW K E e ta ρ B O k' := fun σ H G G0 H0 B0 Q en ow ex x q => h σ H G G0 H0 B0 Q en ow ex x fun d v O' B' G' H' hk => q d v O' B' G' H' (f d O' B' hk)
variable {kb : KWB}
structure KY where
  nx : List (Option D) → OwL → Int → Prop := fun _ _ _ => False
  rt : KW
variable {κy : KY}
end
end AW

set_option linter.all false
set_option maxRecDepth 100000
set_option maxHeartbeats 4000000
namespace AW
open PySem PySem.Spec PyProof.Rows L2 RZ LamX
variable [Tbs]
section
variable {K : PySem.W.Frag} {E E' : XK} {e : EW} {ρ : List (Option D)} {B : Int} {κ : KS} {κx : KX} {ta tb tc tl te : TE} {t : TA} {c : TT} {s ts us tbody : TS} {g : TG} {i j n : Nat} {O : OwL} {p : Addr} {es : List D} {pr : Pr} {k : KW}
end
end AW

set_option linter.all false
set_option maxRecDepth 100000
set_option maxHeartbeats 4000000
namespace AW
open PySem PySem.Spec PyProof.Rows L2 RZ LamX
variable [Tbs]
section
variable {K : PySem.W.Frag} {E E1 : XK} {e : EW} {ρ : List (Option D)} {B : Int} {κx : KX} {κy : KY} {tl te : TE} {s : TS} {i sl : Nat} {O O' : OwL} {p : Addr} {es : List D} {k : KW}
variable {ta tb : TE} {t : TA} {c : TT}
end
end AW

set_option linter.all false
set_option maxRecDepth 100000
set_option maxHeartbeats 4000000
namespace AW
open PySem PySem.Spec PyProof.Rows L2 RZ LamX
variable [Tbs]
section
variable {K : PySem.W.Frag} {E E1 : XK} {e : EW} {ρ : List (Option D)} {B : Int} {k : KD} {t : TA}
end
section
variable {X : Cx} {a : Expr} {ta : TE}
end
end AW

set_option linter.all false
set_option maxRecDepth 100000
set_option maxHeartbeats 4000000
namespace AW
open PySem PySem.Spec PyProof.Rows L2 RZ LamX
variable [Tbs]
section
variable {K : PySem.W.Frag} {E E1 : XK} {e : EW} {ρ : List (Option D)} {B : Int} {κ : KS} {ta tb : TE} {us : TS} {i : Nat}
end
end AW

set_option linter.all false
set_option maxRecDepth 100000
set_option maxHeartbeats 8000000
namespace AW
open PySem PySem.Spec PyProof.Rows L2
variable [Tbs]
section
variable {K : PySem.W.Frag} {E : XK} {e : EW} {ρ : List (Option D)} {B : Int}
end
end AW

set_option linter.all false
set_option maxRecDepth 100000
set_option maxHeartbeats 4000000
namespace AW
open PySem PySem.Spec PyProof.Rows L2 RZ
variable [Tbs]
section
variable {K : PySem.W.Frag} {E E1 : XK} {e : EW} {ρ : List (Option D)} {B : Int} {k : KD} {tl te tx : TE} {sO sI : Nat}
end
end AW

set_option linter.all false
set_option maxRecDepth 100000
set_option maxHeartbeats 4000000
namespace AW
open PySem PySem.Spec PyProof.Rows L2 RZ LamX
variable [Tbs]
section
variable {K : PySem.W.Frag} {E E' E1 : XK} {e : EW} {ρ : List (Option D)} {B : Int} {k : KD} {κ : KS} {κx : KX} {ta tb tl te : TE} {t : TA} {ts us : TS} {i j n : Nat} {O : OwL} {p : Addr} {es : List D}
end
end AW

set_option linter.all false
set_option maxRecDepth 100000
set_option maxHeartbeats 4000000
namespace AW
open PySem PySem.Spec PyProof.Rows L2 RZ LamX
variable [Tbs]
section
variable {K : PySem.W.Frag} {E E' E1 : XK} {e : EW} {ρ : List (Option D)} {B : Int} {k : KW} {κ : KS} {κx : KX} {ta tb tl te : TE} {t : TA} {s ts us : TS} {i j n : Nat} {O : OwL} {p a : Addr} {es ds : List D}
end
end AW

set_option linter.all false
set_option maxRecDepth 100000
set_option maxHeartbeats 4000000
namespace AW
open PySem PySem.Spec PyProof.Rows L2 RZ LamX
variable [Tbs]
end AW

set_option linter.all false
set_option maxHeartbeats 2000000
namespace AW
open PySem PySem.Spec PyProof.Rows L2
variable [Tbs]
section
variable {P : Program} {w : World} {K : PySem.W.Frag} {mg : Str → Option Value} {base : Heap} {E E' : XK} {e : EW} {ρ : List (Option D)} {B : Int} {k : KD} {κ : KS} {t : TA} {i : Nat}
end
end AW

set_option linter.all false
set_option maxRecDepth 100000
set_option maxHeartbeats 4000000
namespace AW
open PySem PySem.Spec PyProof.Rows L2 RZ LamX
variable [Tbs]
section
variable {K : PySem.W.Frag} {E E' E1 : XK} {e : EW} {ρ : List (Option D)} {B : Int} {κ : KS} {κx : KX} {ta tb tl te : TE} {t : TA} {ts us : TS} {i j n : Nat} {O : OwL} {p : Addr} {es : List D} {k : KW}
end
end AW

set_option linter.all false
set_option maxHeartbeats 2000000
namespace AW
open PySem PySem.Spec PyProof.Rows L2
variable [Tbs]
section
variable {P : Program} {w : World} {K : PySem.W.Frag} {mg : Str → Option Value} {base : Heap} {E E1 : XK} {e : EW} {ρ : List (Option D)} {B : Int} {k : KD} {κ : KS} {t tk : TA} {te ta : TE} {tt : TT} {i j : Nat} {g1 g2 g3 : TG}
end
end AW

set_option linter.all false
set_option maxHeartbeats 2000000
namespace AW
open PySem PySem.Spec PyProof.Rows L2
variable [Tbs]
section
variable {P : Program} {w : World} {K : PySem.W.Frag} {mg : Str → Option Value} {base : Heap} {E E1 : XK} {e : EW} {ρ : List (Option D)} {B : Int} {O : OwL} {k : KW} {κx : KX} {t : TA} {te tl : TE} {tt : TT} {g : TG} {tbody : TS}
end
end AW

set_option linter.all false
set_option maxRecDepth 100000
set_option maxHeartbeats 4000000
namespace AW
open PySem PySem.Spec PyProof.Rows L2 RZ LamX
variable [Tbs]
def lkOC (f : Bool) : OC → Bool
  | .dict _ => true
  | .list es => lkOkL f es
  | .dictD l => lkOkL f (l.map (·.2))
  | _ => false
section
variable {K : PySem.W.Frag} {E E' : XK} {e : EW} {ρ : List (Option D)} {B : Int} {k : KD} {κ : KS} {κx : KX} {ta tb tc tl te ti : TE} {tt : TT} {t : TA} {s ts us tbody : TS} {g : TG} {i j n : Nat} {O : List (Addr × OC)} {p : Addr}
theorem Own1.weak {f : Bool} {G G' H H' : Hp} {B B' : Int} {a : Addr} {o : OC} (l : Lw f G B G' B') (hf : lkOC f o = true) (h : Own1 K G H B a o) (hH : H' a = H a) : Own1 K G' H' B' a o := by
  cases o with
  | dict l => exact hH.trans h
  | list es => obtain ⟨vs, h, hr⟩ := h; exact ⟨vs, hH.trans h, RepL.weak l hf hr⟩
  | dictD l => obtain ⟨vs, h, hr⟩ := h; exact ⟨vs, hH.trans h, RepL.weak ‹_› hf hr⟩
  | lckD od l vs => exact nomatch hf
  | obj C dx fs => exact nomatch hf
theorem zip_snd {α β : Type} : ∀ {l : List α} {a b : List β}, l.length = a.length → l.length = b.length → l.zip a = l.zip b → a = b
  | [], [], [], _, _, _ => rfl
  | _ :: l, x :: a, y :: b, h1, h2, e => by
    rw [List.zip_cons_cons, List.zip_cons_cons] at e
    have e1 := (List.cons.inj e).1
    have e2 := (List.cons.inj e).2
    rw [(Prod.mk.inj e1).2, zip_snd (by simpa using h1) (by simpa using h2) e2]
/-- for k in d, d told: locked meanwhile -/
theorem wx_for_dt {kss : List (List Key)} {ds : List D} (hi : ρ[i]? = some (some (.dt false kss ds))) (hno : ∀ u, lkOkE false (ρ.set i (some (.at_ u (.dt true kss ds)))) = true) (hO : ∀ x ∈ O, lkOC false x.2 = true)
    (h : ∀ u : V, ∃ I : IX, I 0 (ρ.set i (some (.at_ u (.dt true kss ds)))) O B ∧ (∀ n ρ' O' B', I n ρ' O' B' → ρ'[i]? = some (some (.at_ u (.dt true kss ds)))) ∧ (∀ n c ρ' O' B', kss[n]? = some c → I n ρ' O' B' → Wg K g (.kt c) ρ' B' fun ρ2 B2 => WOw K E noE tbody ρ2 B2 O' { nx := I (n + 1), rt := fun _ _ => False, bk := fun _ _ _ => False, ct := I (n + 1) }) ∧ ∀ ρ' O' B', I kss.length ρ' O' B' → lkOkE true ρ' = true ∧ (∀ x ∈ O', lkOC true x.2 = true) ∧ κx.nx (ρ'.set i (some (.dt false kss ds))) O' B') :
    WOw K E e (tLock (tFor (iKeys (tVar i)) g tbody)) ρ B O κx := fun σ H G Dn G0 H0 B0 en ow ex x q => by
  obtain ⟨v0, hv0, a, vs, rfl, ha, hn, hr⟩ := en.get hi
  have ha : G a = some (.dT (kss.zip vs)) := ha.elim id fun z => nomatch z.1
  have lz : (kss.zip vs).length = kss.length := by rw [List.length_zip, hn]; simp
  refine ⟨a, _, ex.sub _ _ ha, trivial, fun od => ?_⟩
  obtain ⟨I, i0, hI, hs, hd⟩ := h (.ref a)
  have lw := lw_lock (B := B) (od := od) ha
  have sub1 := sub_lock (a := a) (o := .frz od (.dT (kss.zip vs))) ex.sub
  have en0 : EnvR K G B (ρ.set i (some (.at_ (.ref a) (.dt true kss ds)))) σ := by
    have e1 : EnvR K G B (ρ.set i (some (.at_ (.ref a) (.dt true kss ds)))) (σ.set i (some (.ref a))) := EnvR.set (d := .at_ (.ref a) (.dt true kss ds)) (v := .ref a) ⟨rfl, a, vs, rfl, .inl ha, hn, hr⟩ i en
    rwa [set_id hv0] at e1
  have en1 : EnvR K (upd G a (.frz od (.dT (kss.zip vs)))) B (ρ.set i (some (.at_ (.ref a) (.dt true kss ds)))) σ := EnvR.weak lw (hno _) en0
  have neO : ∀ y ∈ O, y.1 ≠ a := fun y hy z => by
    have := (ow.at_ y hy).2.1
    rw [z, ha] at this; cases this
  -- the base, locked too
  have exl : Ext (upd G0 a (.frz od (.dT (kss.zip vs)))) (upd H0 a (.frz od (.dT (kss.zip vs)))) B0 (upd G a (.frz od (.dT (kss.zip vs)))) (upd H a (.frz od (.dT (kss.zip vs)))) B := by
    refine ⟨⟨ex.le.b, fun b o z np => ?_, fun b k l c s r z => ?_, fun z => ?_⟩, sub1, fun b o z zn nt => ?_⟩
    · by_cases w : b = a
      · subst w; rw [upd_same] at z ⊢; exact z
      · rw [upd_ne w] at z ⊢; exact ex.le.keep b o z np
    · by_cases w : b = a
      · subst w; rw [upd_same] at z; cases z
      · rw [upd_ne w] at z ⊢; exact ex.le.pen b k l c s r z
    · have z0 : Tabs Tbs.T G0 := fun P hP => by
        obtain ⟨ps, t1, t2, t3⟩ := z P hP
        have w : P.1 ≠ a := fun w => by rw [w, upd_same] at t1; cases t1
        rw [upd_ne w] at t1
        refine ⟨ps, t1, t2, fun pos cv hc => ?_⟩
        obtain ⟨c, y1, y2⟩ := t3 pos cv hc
        have w2 : c ≠ a := fun w => by rw [w, upd_same] at y2; unfold LamX.CodeO at y2; cases y2
        rw [upd_ne w2] at y2
        exact ⟨c, y1, y2⟩
      exact lw.tb (ex.le.tb z0)
    · have w : b ≠ a := fun w => by rw [w, upd_same] at zn; cases zn
      rw [upd_ne w] at z zn ⊢
      rw [upd_ne w]
      exact ex.fr b o z zn nt
  have owl : Owns K (upd G0 a (.frz od (.dT (kss.zip vs)))) (upd H0 a (.frz od (.dT (kss.zip vs)))) (upd G a (.frz od (.dT (kss.zip vs)))) (upd H a (.frz od (.dT (kss.zip vs)))) B O := by
    refine ⟨ow.nd, fun y hy => ?_⟩
    obtain ⟨z1, z2, z3⟩ := ow.at_ y hy
    have ne := neO y hy
    refine ⟨fun o w1 w2 w3 => z1 o (by rwa [upd_ne ne] at w1) (by rwa [upd_ne ne] at w2) w3, by rw [upd_ne ne]; exact z2, Own1.weak lw (hO y hy) z3 (by rw [upd_ne ne])⟩
  refine ⟨.ref a, hv0, a, od, rfl, .inr ⟨_, upd_same, ?_⟩⟩
  have frz : ∀ {G' H' : Hp} {B' : Int}, Ext (upd G0 a (.frz od (.dT (kss.zip vs)))) (upd H0 a (.frz od (.dT (kss.zip vs)))) B0 G' H' B' → G' a = some (.frz od (.dT (kss.zip vs))) ∧ H' a = some (.frz od (.dT (kss.zip vs))) := fun e1 => ⟨e1.le.keep a _ upd_same nopen_frz, e1.sub _ _ (e1.le.keep a _ upd_same nopen_frz)⟩
  refine for_it walk_keysT (PX K I (upd G0 a (.frz od (.dT (kss.zip vs)))) (upd H0 a (.frz od (.dT (kss.zip vs)))) B0) ⟨_, O, B, _, i0, exl, en1, owl⟩ (fun m σ' H' _ ⟨ρ', O', B', G', hI', e1, en', ow'⟩ => (frz e1).2) ?_ ?_
  · rintro m y σ' H' H'' hm ⟨ρ', O', B', G', hI', e1, en', ow'⟩ ⟨eH, c, v, b, hc, ey, hb⟩
    subst eH ey
    have hx : kss[m]? = some c := by
      rw [List.getElem?_zip_eq_some] at hc
      exact hc.1
    have eL := Ext.learn (B := B') e1.sub hb
    refine hs m c ρ' O' B' hx hI' (.ref b) σ' H'' _ _ eL.sub (en'.mono eL.le) (show Rep K _ B' (.kt c) (.ref b) from ⟨b, rfl, upd_same⟩) fun ρ2 σ2 B2 G2 H2 h2 e3 en3 => ?_
    exact h2 σ2 H2 G2 _ _ _ B0 en3 ((ow'.ext eL).ext e3) (e1.trans (eL.trans e3)) XOk.no ⟨fun ρ3 O3 σ3 B3 G3 H3 h3 e4 en4 ow4 => ⟨ρ3, O3, B3, G3, h3, e4, en4, ow4⟩, fun _ _ _ _ _ z => z.elim, fun _ _ _ _ _ _ z => z.elim, fun ρ3 O3 σ3 B3 G3 H3 h3 e4 en4 ow4 => ⟨ρ3, O3, B3, G3, h3, e4, en4, ow4⟩⟩
  · rintro σ' H' ⟨ρ', O', B', G', hI', e1, en', ow'⟩
    rw [lz] at hI'
    obtain ⟨g1, h1⟩ := frz e1
    obtain ⟨hl, hlO, hk⟩ := hd _ _ _ hI'
    obtain ⟨v1, hv1, ev, a2, vs', ev', hz, hn', hr'⟩ := en'.get (hI _ _ _ _ hI')
    subst ev
    have lu := lw_unlock (B := B') g1
    have exu : Ext G0 H0 B0 (upd G' a (.dT (kss.zip vs))) (upd H' a (.dT (kss.zip vs))) B' := by
      refine ⟨⟨e1.le.b, fun b o z np => ?_, fun b k l c s r z => ?_, fun z => ?_⟩, fun b o z => ?_, fun b o z zn nt => ?_⟩
      · by_cases w : b = a
        · subst w
          have := ex.le.keep b o z np
          rw [ha] at this
          rw [upd_same]; exact this
        · rw [upd_ne w]; exact e1.le.keep b o (by rw [upd_ne w]; exact z) np
      · have w : b ≠ a := fun w => by
          subst w
          obtain ⟨s', r', z', _⟩ := ex.le.pen b k l c s r z
          rw [ha] at z'; cases z'
        obtain ⟨s', r', z2, q2⟩ := e1.le.pen b k l c s r (by rw [upd_ne w]; exact z)
        exact ⟨s', r', by rw [upd_ne w]; exact z2, q2⟩
      · refine lu.tb (e1.le.tb ?_)
        have z1 := ex.le.tb z
        intro P hP
        obtain ⟨ps, t1, t2, t3⟩ := z P hP
        have w : P.1 ≠ a := fun w => by
          obtain ⟨ps1, y1, _⟩ := z1 P hP
          rw [w, ha] at y1; cases y1
        refine ⟨ps, by rw [upd_ne w]; exact t1, t2, fun pos cv hc => ?_⟩
        obtain ⟨c, y1, y2⟩ := t3 pos cv hc
        refine ⟨c, y1, ?_⟩
        have w2 : c ≠ a := fun w2 => by
          have y3 := ex.le.keep c _ y2 nopen_code
          rw [w2, ha] at y3; unfold LamX.CodeO at y3; cases y3
        rw [upd_ne w2]; exact y2
      · by_cases w : b = a
        · subst w; rw [upd_same] at z ⊢; exact z
        · rw [upd_ne w] at z ⊢; exact e1.sub _ _ z
      · have w : b ≠ a := fun w => by
          subst w
          have := (ex.fr b o z zn nt).2
          rw [ha] at this; cases this
        obtain ⟨y1, y2⟩ := e1.fr b o (by rw [upd_ne w]; exact z) (by rw [upd_ne w]; exact zn) nt
        exact ⟨by rw [upd_ne w]; exact y1, by rw [upd_ne w]; exact y2⟩
    have hlk : lkOk true (.at_ (.ref a) (.dt true kss ds)) = true := lkOkE_get hl (hI _ _ _ _ hI')
    have hlk2 : ((true || true) && lkOkL true ds) = true := hlk
    have hlk3 : lkOkL true ds = true := hlk2
    have ea : a = a2 := V.ref.inj ev'
    subst ea
    have evs : vs' = vs := by
      rcases hz with hz | ⟨_, o, hz⟩
      · rw [g1] at hz; cases hz
      · rw [g1] at hz
        injection hz with hz
        injection hz with _ hz
        injection hz with hz
        exact (zip_snd hn hn' hz).symm
    subst evs
    have en2 := EnvR.set (d := .dt false kss ds) (v := .ref a) ⟨a, vs', rfl, .inl upd_same, hn, RepL.weak lu hlk3 hr'⟩ i (EnvR.weak lu hl en')
    rw [set_id hv1] at en2
    refine ⟨h1, q.nx _ O' _ _ _ _ hk exu en2 ⟨ow'.nd, fun y hy => ?_⟩⟩
    obtain ⟨z1, z2, z3⟩ := ow'.at_ y hy
    have ne : y.1 ≠ a := fun z => by rw [z, g1] at z2; cases z2
    exact ⟨fun o w1 w2 w3 => z1 o (by rw [upd_ne ne]; exact w1) (by rw [upd_ne ne]; exact w2) w3, by rw [upd_ne ne]; exact z2, Own1.weak lu (hlO y hy) z3 (by rw [upd_ne ne])⟩
/-- len(d), also while it is locked -/
theorem call_len_dTR {X : Cx} : CallR X (.builtin "len") (fun xs H Q => ∃ (p : Addr) (kvs : List (List Key × V)), xs = [.ref p] ∧ Rd H p (.dT kvs) ∧ Q (.int ((kvs.length : Nat) : Int)) H) := by
  intro pins s σ H xs us Q I r h
  obtain ⟨p, kvs, rfl, hp, q⟩ := h
  obtain ⟨u, rfl, rx⟩ := vals1 r
  obtain rfl : u = .ref p := rx
  obtain ⟨z, hd, ys, rel, dd⟩ := L2.dt_rd I.hok hp
  have hl : kvs.length = ys.length := Paired.length rel
  refine call_len_dictH hd dd (by rw [← hl]; rw [sizeLine_eq] at z; omega) ?_
  rw [← hl]
  exact ⟨.int ((kvs.length : Nat) : Int), H, I.tok _, ⟨_, rfl⟩, q⟩
theorem we_lenDT (h : Wa K E e t ρ B fun as B1 => ∃ lk kss ds, as = [.dt lk kss ds] ∧ k (.int kss.length) B1) : We K E e (tCB (fun xs H Q => ∃ (p : Addr) (kvs : List (List Key × V)), xs = [.ref p] ∧ Rd H p (.dT kvs) ∧ Q (.int ((kvs.length : Nat) : Int)) H) t) ρ B k :=
  we_cb fun σ H G Q s en x q => h σ H G Q s en x fun as vs B1 G1 H1 ⟨lk, kss, ds, ed, hk⟩ e1 r1 => q as vs B1 G1 H1 (fun ws H2 G2 Q2 s2 r2 q2 => by
    subst ed
    obtain ⟨v, _, rfl, ⟨a, us, rfl, ha, hn, hr⟩, rfl⟩ := r2
    refine ⟨a, kss.zip us, rfl, ?_, ?_⟩
    · rcases ha with ha | ⟨_, o, ha⟩
      · exact .inl (s2 _ _ ha)
      · exact .inr ⟨o, s2 _ _ ha⟩
    · rw [List.length_zip, ← hn, Nat.min_self]
      exact q2 _ _ _ _ _ hk (Ext.refl s2) rfl) e1 r1
/-- a told dict, be it locked or not -/
theorem we_dtW (h : We K E e ta ρ B fun d B1 => ∃ kss ds, d = .dt false kss ds ∧ k (.dt true kss ds) B1) : We K E e ta ρ B k := fun σ H G Q s en x q =>
  h σ H G Q s en x fun d v B1 G1 H1 ⟨kss, ds, ed, hk⟩ e1 r1 => by
    subst ed
    obtain ⟨a, vs, rfl, ha, hn, hr⟩ := r1
    exact q _ _ _ _ _ hk e1 ⟨a, vs, rfl, .inl (ha.elim id fun z => nomatch z.1), hn, hr⟩
/-- i & (2 ^ m - 1) -/
theorem ro_andM {i : Int} {m : Nat} (h : k (.int (i % 2 ^ m)) B) : Ro K E e (fun x y H Q => ∃ (i : Int) (k : Nat), x = .int i ∧ y = .int (2 ^ k - 1) ∧ Q (.int (i % 2 ^ k)) H) (.int i) (.int (2 ^ m - 1)) B k := fun x y H G Q s r1 r2 _ q => by
  rw [show x = _ from r1, show y = _ from r2]
  exact ⟨i, m, rfl, rfl, q _ _ _ _ _ h (Ext.refl s) rfl⟩
end
end AW

set_option maxHeartbeats 2000000
namespace Fewest
abbrev ab (x : Int) : Int := (x.natAbs : Int)
/-- a box of the sides p and q holds the place -/
def Box (X Y U p q : Int) : Prop := X ≤ p ∧ Y ≤ q ∧ U + X * Y ≤ 2 * (p * q)
/-- n is the least 2 (p + q) - X - Y of the boxes -/
structure Least (X Y U n : Int) : Prop where
  has : ∃ p q, Box X Y U p q ∧ n = 2 * (p + q) - X - Y
  low : ∀ p q, Box X Y U p q → n ≤ 2 * (p + q) - X - Y
theorem Box.swap {X Y U p q : Int} (h : Box X Y U p q) : Box Y X U q p := by
  obtain ⟨h1, h2, h3⟩ := h
  refine ⟨h2, h1, ?_⟩
  rw [Int.mul_comm Y X, Int.mul_comm q p]
  exact h3
theorem Least.swap {X Y U n : Int} (h : Least X Y U n) : Least Y X U n := by
  obtain ⟨p, q, b, e⟩ := h.has
  exact ⟨⟨q, p, b.swap, by omega⟩, fun p q b => by have := h.low q p b.swap; omega⟩
theorem Least.uniq {X Y U n m : Int} (h : Least X Y U n) (g : Least X Y U m) : n = m := by
  obtain ⟨p, q, b, e⟩ := h.has
  obtain ⟨p', q', b', e'⟩ := g.has
  have h1 := g.low p q b
  have h2 := h.low p' q' b'
  omega
theorem mul_mono {a b c : Int} (h : a ≤ b) (hc : 0 ≤ c) : a * c ≤ b * c := Int.mul_le_mul_of_nonneg_right h hc
/-- one step along x: to a side X' that is X + 1 or X - 1, the ground moved by at most Y -/
theorem lip_up {X Y U U' p q : Int} (hY : 0 ≤ Y) (b : Box X Y U p q) (hu : U' ≤ U + Y) : Box (X + 1) Y U' (p + 1) q := by
  obtain ⟨h1, h2, h3⟩ := b
  refine ⟨by omega, h2, ?_⟩
  rw [Int.add_mul, Int.add_mul]
  omega
theorem lip_down {X Y U U' p q : Int} (b : Box X Y U p q) (hu : U' ≤ U + Y) : Box (X - 1) Y U' p q := by
  obtain ⟨h1, h2, h3⟩ := b
  refine ⟨by omega, h2, ?_⟩
  rw [Int.sub_mul]
  omega
/-- no step makes more than one step more -/
theorem lip_x {x y u u' x' n m : Int} (hx : x' = x + 1 ∨ x' = x - 1) (hu : ab u' ≤ ab u + ab y) (h : Least (ab x) (ab y) (ab u) n) (g : Least (ab x') (ab y) (ab u') m) : m ≤ n + 1 := by
  obtain ⟨p, q, b, e⟩ := h.has
  have hY : 0 ≤ ab y := by unfold ab; omega
  rcases (show ab x' = ab x + 1 ∨ ab x' = ab x - 1 by unfold ab; omega) with e1 | e1
  · rw [e1] at g
    have := g.low _ _ (lip_up hY b hu)
    omega
  · rw [e1] at g
    have := g.low _ _ (lip_down b hu)
    omega
def half (A : Int) (h : Int) : Prop := 0 ≤ h ∧ 4 * A ≤ h * h ∧ (h - 1) * (h - 1) < 4 * A
theorem sq_le {a b : Int} (ha : 0 ≤ a) (h : a ≤ b) : a * a ≤ b * b := Int.le_trans (Int.mul_le_mul_of_nonneg_right h ha) (Int.mul_le_mul_of_nonneg_left h (by omega))
theorem sq_lt {a b : Int} (hb : 0 ≤ b) (h : a * a < b * b) : a < b := by
  by_cases c : b ≤ a
  · have := sq_le hb c; omega
  · omega
theorem four (p q : Int) : 4 * (p * q) ≤ (p + q) * (p + q) := by
  have h : 0 ≤ (p - q) * (p - q) := by
    rcases Int.le_total 0 (p - q) with h | h
    · exact Int.mul_nonneg h h
    · have := Int.mul_nonneg (show 0 ≤ -(p - q) by omega) (show 0 ≤ -(p - q) by omega)
      rw [Int.neg_mul_neg] at this
      exact this
  have e : (p + q) * (p + q) = (p - q) * (p - q) + 4 * (p * q) := by grind
  omega
/-- within the sides -/
theorem least1 {L S U A : Int} (hA : 2 * A = U + L * S) (hc : A ≤ L * S) : Least L S U (L + S) :=
  ⟨⟨L, S, ⟨Int.le_refl _, Int.le_refl _, by omega⟩, by omega⟩, fun p q b => by have := b.1; have := b.2.1; omega⟩
/-- the longer side stays, c the least with A ≤ L c -/
theorem least2 {L S U A c : Int} (hS : 0 ≤ S) (hL : 0 < L) (hA : 2 * A = U + L * S) (h1 : L * S < A) (h2 : A ≤ L * L) (hc : A ≤ L * c) (hc2 : L * (c - 1) < A) : Least L S U (2 * c + L - S) := by
  have cS : S ≤ c := by
    rcases (show c < S ∨ S ≤ c by omega) with h | h
    · have := Int.mul_le_mul_of_nonneg_left (show c ≤ S by omega) (Int.le_of_lt hL)
      omega
    · exact h
  refine ⟨⟨L, c, ⟨Int.le_refl _, cS, by omega⟩, by omega⟩, fun p q b => ?_⟩
  obtain ⟨b1, b2, b3⟩ := b
  rcases (show p + q < L + c ∨ L + c ≤ p + q by omega) with h | h
  · have cL : c - 1 < L := by
      rcases (show c - 1 < L ∨ L ≤ c - 1 by omega) with h | h
      · exact h
      · have := Int.mul_le_mul_of_nonneg_left h (Int.le_of_lt hL)
        omega
    -- p = L + d, q ≤ c - 1 - d
    have hp : 0 ≤ p := by omega
    have e1 : p * q ≤ p * (L + c - 1 - p) := Int.mul_le_mul_of_nonneg_left (by omega) hp
    have e2 : 0 ≤ (p - L) * (p - (c - 1)) := Int.mul_nonneg (by omega) (by omega)
    have e3 : p * (L + c - 1 - p) = L * (c - 1) - (p - L) * (p - (c - 1)) := by grind
    omega
  · omega
/-- a square, or nearly so -/
theorem least3 {L S U A h : Int} (hS : 0 ≤ S) (hSL : S ≤ L) (hA : 2 * A = U + L * S) (h2 : L * L < A) (hh : half A h) : Least L S U (2 * h - L - S) := by
  obtain ⟨k0, k1, k2⟩ := hh
  have hL : 2 * L < h := by
    have : (2 * L) * (2 * L) < h * h := by
      have e : (2 * L) * (2 * L) = 4 * (L * L) := by grind
      omega
    exact sq_lt k0 this
  obtain ⟨p, q, hpq, hq⟩ : ∃ p q : Int, p + q = h ∧ (p = q ∨ p = q + 1) := ⟨h - h / 2, h / 2, by omega, by omega⟩
  have area : A ≤ p * q := by
    rcases hq with e | e
    · subst e
      have e2 : h * h = 4 * (p * p) := by rw [← hpq]; grind
      omega
    · subst e
      have e2 : h * h = 4 * ((q + 1) * q) + 1 := by rw [← hpq]; grind
      omega
  refine ⟨⟨p, q, ⟨by omega, by omega, by omega⟩, by omega⟩, fun p q b => ?_⟩
  obtain ⟨b1, b2, b3⟩ := b
  have h4 := four p q
  have : (h - 1) * (h - 1) < (p + q) * (p + q) := by omega
  have := sq_lt (show 0 ≤ p + q by omega) this
  omega
end Fewest
namespace Fewest
theorem lip_y {x y u u' y' n m : Int} (hy : y' = y + 1 ∨ y' = y - 1) (hu : ab u' ≤ ab u + ab x) (h : Least (ab x) (ab y) (ab u) n) (g : Least (ab x) (ab y') (ab u') m) : m ≤ n + 1 :=
  lip_x (x := y) (y := x) hy hu h.swap g.swap
/-- a least number is as great as the sides, and goes with them by two -/
theorem Least.ge {x y u n : Int} (h : Least (ab x) (ab y) (ab u) n) : ab x + ab y ≤ n := by
  obtain ⟨p, q, ⟨b1, b2, _⟩, e⟩ := h.has
  omega
theorem Least.par {x y u n : Int} (h : Least (ab x) (ab y) (ab u) n) : n % 2 = (x + y) % 2 := by
  obtain ⟨p, q, _, e⟩ := h.has
  unfold ab at e
  omega
/-- 0 just at home -/
theorem Least.zero {x y u n : Int} (h : Least (ab x) (ab y) (ab u) n) : n = 0 ↔ x = 0 ∧ y = 0 ∧ u = 0 := by
  obtain ⟨p, q, ⟨b1, b2, b3⟩, e⟩ := h.has
  constructor
  · intro z
    subst z
    have hx : 0 ≤ ab x := by unfold ab; omega
    have hy : 0 ≤ ab y := by unfold ab; omega
    have p0 : p = 0 := by omega
    have q0 : q = 0 := by omega
    subst p0; subst q0
    have x0 : x = 0 := by unfold ab at b1; omega
    have y0 : y = 0 := by unfold ab at b2; omega
    subst x0; subst y0
    refine ⟨rfl, rfl, ?_⟩
    have z : ab 0 = 0 := rfl
    rw [z] at b3
    unfold ab at b3
    omega
  · rintro ⟨rfl, rfl, rfl⟩
    have z : ab 0 = 0 := rfl
    have g := h.ge
    rw [z] at h g
    have := h.low 0 0 ⟨by decide, by decide, by decide⟩
    omega
/-- where a box is that is better by what is wanted, the least number is less -/
theorem Least.lt {X Y U X' Y' U' p q p' q' n m : Int} (e : n = 2 * (p + q) - X - Y) (g : Least X' Y' U' m) (b : Box X' Y' U' p' q') (l : 2 * (p' + q') - X' - Y' < 2 * (p + q) - X - Y) : m < n := by
  have := g.low p' q' b
  omega
theorem ab_pos {x : Int} (h : 0 ≤ x) : ab x = x := by unfold ab; omega
theorem ab_neg {x : Int} : ab (-x) = ab x := by unfold ab; omega
/-- from a place in the first quarter with u ≥ 0 some step leads nearer: e, w or s -/
theorem down_first {x y u n : Int} (hx : 0 ≤ x) (hy : 0 ≤ y) (hu : 0 ≤ u) (par : (u - x * y) % 2 = 0) (nz : ¬(x = 0 ∧ y = 0 ∧ u = 0)) (h : Least x y u n) :
    (∃ p q, Box (ab (x + 1)) (ab y) (ab (u - y)) p q ∧ 2 * (p + q) - ab (x + 1) - ab y < n) ∨
    (∃ p q, Box (ab (x - 1)) (ab y) (ab (u + y)) p q ∧ 2 * (p + q) - ab (x - 1) - ab y < n) ∨
    (∃ p q, Box (ab x) (ab (y - 1)) (ab (u - x)) p q ∧ 2 * (p + q) - ab x - ab (y - 1) < n) := by
  obtain ⟨p, q, ⟨b1, b2, b3⟩, e⟩ := h.has
  have xy0 : 0 ≤ x * y := Int.mul_nonneg hx hy
  rcases (show u ≤ x * y ∨ x * y < u by omega) with c | c
  · -- within the sides
    have nn := h.low x y ⟨Int.le_refl _, Int.le_refl _, by omega⟩
    have ge : x + y ≤ n := by omega
    have en : n = x + y := by omega
    rcases (show y = 0 ∨ 1 ≤ y by omega) with hy0 | hy1
    · subst hy0
      have u0 : u = 0 := by simp at c; omega
      subst u0
      have x1 : 1 ≤ x := by
        rcases (show x = 0 ∨ 1 ≤ x by omega) with z | z
        · exact absurd ⟨z, rfl, rfl⟩ nz
        · exact z
      have z : ab 0 = 0 := rfl
      refine .inr (.inl ⟨x - 1, 0, ⟨by unfold ab; omega, by rw [z]; exact Int.le_refl _, ?_⟩, by unfold ab; omega⟩)
      rw [show (0 : Int) + 0 = 0 from rfl, z, Int.mul_zero, Int.mul_zero]
      decide
    · rcases (show x ≤ u ∨ u < x by omega) with d | d
      · -- s
        refine .inr (.inr ⟨x, y - 1, ⟨by unfold ab; omega, by unfold ab; omega, ?_⟩, by unfold ab; omega⟩)
        have e1 : ab x = x := by unfold ab; omega
        have e2 : ab (y - 1) = y - 1 := by unfold ab; omega
        have e3 : ab (u - x) = u - x := by unfold ab; omega
        rw [e1, e2, e3, Int.mul_sub]
        omega
      · rcases (show y = 1 ∨ 2 ≤ y by omega) with z | z
        · subst z
          -- w
          refine .inr (.inl ⟨x - 1, 1, ⟨by unfold ab; omega, by unfold ab; omega, ?_⟩, by unfold ab; omega⟩)
          have e1 : ab (x - 1) = x - 1 := by unfold ab; omega
          have e2 : ab (u + 1) = u + 1 := by unfold ab; omega
          have e3 : ab 1 = 1 := rfl
          rw [e1, e2, e3]
          omega
        · refine .inr (.inr ⟨x, y - 1, ⟨by unfold ab; omega, by unfold ab; omega, ?_⟩, by unfold ab; omega⟩)
          have e1 : ab x = x := by unfold ab; omega
          have e2 : ab (y - 1) = y - 1 := by unfold ab; omega
          have e3 : ab (u - x) = x - u := by unfold ab; omega
          have e4 : x * 2 ≤ x * y := Int.mul_le_mul_of_nonneg_left z hx
          rw [e1, e2, e3, Int.mul_sub]
          omega
  · -- beyond
    rcases (show x + 1 ≤ p ∨ p = x by omega) with d | d
    · rcases (show y ≤ u ∨ u < y by omega) with f | f
      · -- e, the same box
        refine .inl ⟨p, q, ⟨by unfold ab; omega, by unfold ab; omega, ?_⟩, by unfold ab; omega⟩
        have e1 : ab (x + 1) = x + 1 := by unfold ab; omega
        have e2 : ab y = y := by unfold ab; omega
        have e3 : ab (u - y) = u - y := by unfold ab; omega
        rw [e1, e2, e3, Int.add_mul]
        omega
      · have x0 : x = 0 := by
          rcases (show x = 0 ∨ 1 ≤ x by omega) with z | z
          · exact z
          · have := mul_mono z hy
            omega
        subst x0
        refine .inl ⟨1, y, ⟨by unfold ab; omega, by unfold ab; omega, ?_⟩, by unfold ab; omega⟩
        have e1 : ab (0 + 1) = 1 := by unfold ab; omega
        have e2 : ab y = y := by unfold ab; omega
        have e3 : ab (u - y) = y - u := by unfold ab; omega
        rw [e1, e2, e3]
        omega
    · subst d
      have x1 : 1 ≤ p := by
        rcases (show p = 0 ∨ 1 ≤ p by omega) with z | z
        · subst z; simp at b3 c; omega
        · exact z
      have q1 : y + 1 ≤ q := by
        rcases (show q = y ∨ y + 1 ≤ q by omega) with z | z
        · subst z; omega
        · exact z
      rcases (show y = 0 ∨ 1 ≤ y by omega) with hy0 | hy1
      · subst hy0
        rcases (show p ≤ u ∨ u < p by omega) with f | f
        · refine .inr (.inr ⟨p, q, ⟨by unfold ab; omega, by unfold ab; omega, ?_⟩, by unfold ab; omega⟩)
          have e1 : ab p = p := by unfold ab; omega
          have e2 : ab (0 - 1) = 1 := by unfold ab; omega
          have e3 : ab (u - p) = u - p := by unfold ab; omega
          rw [e1, e2, e3]
          simp at b3
          omega
        · refine .inr (.inr ⟨p, 1, ⟨by unfold ab; omega, by unfold ab; omega, ?_⟩, by unfold ab; omega⟩)
          have e1 : ab p = p := by unfold ab; omega
          have e2 : ab (0 - 1) = 1 := by unfold ab; omega
          have e3 : ab (u - p) = p - u := by unfold ab; omega
          rw [e1, e2, e3]
          omega
      · have pu : p ≤ u := by
          have : p * 1 ≤ p * y := Int.mul_le_mul_of_nonneg_left hy1 hx
          omega
        refine .inr (.inr ⟨p, q - 1, ⟨by unfold ab; omega, by unfold ab; omega, ?_⟩, by unfold ab; omega⟩)
        have e1 : ab p = p := by unfold ab; omega
        have e2 : ab (y - 1) = y - 1 := by unfold ab; omega
        have e3 : ab (u - p) = u - p := by unfold ab; omega
        rw [e1, e2, e3, Int.mul_sub, Int.mul_sub]
        omega
end Fewest
namespace Fewest
/-- a box that is better than n -/
def D (x y u n : Int) : Prop := ∃ p q, Box (ab x) (ab y) (ab u) p q ∧ 2 * (p + q) - ab x - ab y < n
/-- one of the four steps leads nearer -/
def Near (x y u n : Int) : Prop := D (x + 1) y (u - y) n ∨ D (x - 1) y (u + y) n ∨ D x (y + 1) (u + x) n ∨ D x (y - 1) (u - x) n
theorem D.same {x y u x' y' u' n : Int} (h : D x y u n) (h1 : ab x' = ab x) (h2 : ab y' = ab y) (h3 : ab u' = ab u) : D x' y' u' n := by
  unfold D
  rw [h1, h2, h3]
  exact h
theorem D.swap {x y u x' y' u' n : Int} (h : D x y u n) (h1 : ab x' = ab y) (h2 : ab y' = ab x) (h3 : ab u' = ab u) : D x' y' u' n := by
  unfold D
  rw [h1, h2, h3]
  obtain ⟨p, q, b, l⟩ := h
  exact ⟨q, p, b.swap, by omega⟩
theorem Near.m1 {x y u n : Int} (h : Near (-x) y (-u) n) : Near x y u n := by
  rcases h with h | h | h | h
  · exact .inr (.inl (h.same (by unfold ab; omega) rfl (by unfold ab; omega)))
  · exact .inl (h.same (by unfold ab; omega) rfl (by unfold ab; omega))
  · exact .inr (.inr (.inl (h.same (by unfold ab; omega) rfl (by unfold ab; omega))))
  · exact .inr (.inr (.inr (h.same (by unfold ab; omega) rfl (by unfold ab; omega))))
theorem Near.m2 {x y u n : Int} (h : Near x (-y) (-u) n) : Near x y u n := by
  rcases h with h | h | h | h
  · exact .inl (h.same rfl (by unfold ab; omega) (by unfold ab; omega))
  · exact .inr (.inl (h.same rfl (by unfold ab; omega) (by unfold ab; omega)))
  · exact .inr (.inr (.inr (h.same rfl (by unfold ab; omega) (by unfold ab; omega))))
  · exact .inr (.inr (.inl (h.same rfl (by unfold ab; omega) (by unfold ab; omega))))
theorem Near.m3 {x y u n : Int} (h : Near y x (-u) n) : Near x y u n := by
  rcases h with h | h | h | h
  · exact .inr (.inr (.inl (h.swap rfl rfl (by unfold ab; omega))))
  · exact .inr (.inr (.inr (h.swap rfl rfl (by unfold ab; omega))))
  · exact .inl (h.swap rfl rfl (by unfold ab; omega))
  · exact .inr (.inl (h.swap rfl rfl (by unfold ab; omega)))
theorem near0 {x y u n : Int} (hx : 0 ≤ x) (hy : 0 ≤ y) (hu : 0 ≤ u) (par : (u - x * y) % 2 = 0) (nz : ¬(x = 0 ∧ y = 0 ∧ u = 0)) (h : Least (ab x) (ab y) (ab u) n) : Near x y u n := by
  rw [ab_pos hx, ab_pos hy, ab_pos hu] at h
  rcases down_first hx hy hu par nz h with h | h | h
  · exact .inl h
  · exact .inr (.inl h)
  · exact .inr (.inr (.inr h))
theorem near1 {x y u n : Int} (hx : 0 ≤ x) (hy : 0 ≤ y) (par : (u - x * y) % 2 = 0) (nz : ¬(x = 0 ∧ y = 0 ∧ u = 0)) (h : Least (ab x) (ab y) (ab u) n) : Near x y u n := by
  rcases (show 0 ≤ u ∨ u < 0 by omega) with c | c
  · exact near0 hx hy c par nz h
  · refine Near.m3 (near0 hy hx (by omega) ?_ (by omega) ?_)
    · rw [Int.mul_comm y x]; omega
    · rw [ab_neg]; exact h.swap
theorem near2 {x y u n : Int} (hx : 0 ≤ x) (par : (u - x * y) % 2 = 0) (nz : ¬(x = 0 ∧ y = 0 ∧ u = 0)) (h : Least (ab x) (ab y) (ab u) n) : Near x y u n := by
  rcases (show 0 ≤ y ∨ y < 0 by omega) with c | c
  · exact near1 hx c par nz h
  · refine Near.m2 (near1 hx (by omega) ?_ (by omega) ?_)
    · rw [Int.mul_neg]; omega
    · rw [ab_neg, ab_neg]; exact h
/-- from every place but home some step leads nearer -/
theorem near {x y u n : Int} (par : (u - x * y) % 2 = 0) (nz : ¬(x = 0 ∧ y = 0 ∧ u = 0)) (h : Least (ab x) (ab y) (ab u) n) : Near x y u n := by
  rcases (show 0 ≤ x ∨ x < 0 by omega) with c | c
  · exact near2 c par nz h
  · refine Near.m1 (near2 (by omega) ?_ (by omega) ?_)
    · rw [Int.neg_mul]; omega
    · rw [ab_neg, ab_neg]; exact h
theorem sqrt_ex (n : Nat) : ∃ r : Nat, r * r ≤ n ∧ n < (r + 1) * (r + 1) := by
  induction n with
  | zero => exact ⟨0, by decide, by decide⟩
  | succ n ih =>
    obtain ⟨r, h1, h2⟩ := ih
    by_cases c : n + 1 < (r + 1) * (r + 1)
    · exact ⟨r, by omega, c⟩
    · refine ⟨r + 1, by omega, ?_⟩
      have e : (r + 1 + 1) * (r + 1 + 1) = (r + 1) * (r + 1) + 2 * r + 3 := by grind
      omega
/-- h of the formula: the root of 4 A - 1, and 1 -/
theorem half_of {A r : Int} (hr : 0 ≤ r) (h1 : r * r ≤ 4 * A - 1) (h2 : 4 * A - 1 < (r + 1) * (r + 1)) : half A (r + 1) := by
  refine ⟨by omega, by omega, ?_⟩
  rw [show r + 1 - 1 = r by omega]
  omega
theorem half_ex {A : Int} (hA : 0 < A) : ∃ h, half A h := by
  obtain ⟨r, h1, h2⟩ := sqrt_ex (4 * A - 1).toNat
  refine ⟨(r : Int) + 1, half_of (by omega) ?_ ?_⟩
  · have : ((r * r : Nat) : Int) ≤ 4 * A - 1 := by omega
    rw [Int.natCast_mul] at this
    exact this
  · have : (4 * A - 1) < (((r + 1) * (r + 1) : Nat) : Int) := by omega
    rw [Int.natCast_mul, Int.natCast_add] at this
    exact this
theorem up_ex {A L : Int} (hL : 0 < L) : A ≤ L * (-((-A) / L)) ∧ L * (-((-A) / L) - 1) < A := by
  have h1 := Int.emod_nonneg (-A) (show L ≠ 0 by omega)
  have h2 := Int.emod_lt_of_pos (-A) hL
  have h3 := Int.mul_ediv_add_emod (-A) L
  rw [Int.mul_neg, Int.mul_sub, Int.mul_neg, Int.mul_one]
  omega
/-- the formula of the fewest steps, of the longer and the shorter side and the doubled ground -/
theorem least_sorted {L S U A : Int} (hS : 0 ≤ S) (hSL : S ≤ L) (hU : 0 ≤ U) (hA : 2 * A = U + L * S) : ∃ n, Least L S U n := by
  have h0 : 0 ≤ L * S := Int.mul_nonneg (by omega) hS
  rcases (show A ≤ L * S ∨ L * S < A by omega) with c | c
  · exact ⟨_, least1 hA c⟩
  · rcases (show A ≤ L * L ∨ L * L < A by omega) with d | d
    · have hL : 0 < L := by
        rcases (show L = 0 ∨ 0 < L by omega) with z | z
        · subst z; omega
        · exact z
      exact ⟨_, least2 hS hL hA c d (up_ex hL).1 (up_ex hL).2⟩
    · obtain ⟨h, hh⟩ := half_ex (A := A) (by omega)
      exact ⟨_, least3 hS hSL hA d hh⟩
theorem least_ex {x y u : Int} (par : (u - x * y) % 2 = 0) : ∃ n, Least (ab x) (ab y) (ab u) n := by
  have hx : 0 ≤ ab x := by unfold ab; omega
  have hy : 0 ≤ ab y := by unfold ab; omega
  have hu : 0 ≤ ab u := by unfold ab; omega
  have e : (ab u + ab x * ab y) % 2 = 0 := by
    have e1 : ab x * ab y = ab (x * y) := by unfold ab; rw [Int.natAbs_mul, Int.natCast_mul]
    rw [e1]
    unfold ab
    omega
  rcases (show ab y ≤ ab x ∨ ab x ≤ ab y by omega) with c | c
  · exact least_sorted hy c hu (A := (ab u + ab x * ab y) / 2) (by omega)
  · have e' : (ab u + ab y * ab x) % 2 = 0 := by rw [Int.mul_comm]; exact e
    obtain ⟨n, h⟩ := least_sorted hx c hu (A := (ab u + ab y * ab x) / 2) (by omega)
    exact ⟨n, h.swap⟩
end Fewest
namespace Fewest
/-- n is the number of fewest steps to (x, y, a) -/
def St (x y a n : Int) : Prop := Least (ab x) (ab y) (ab (2 * a - x * y)) n
theorem st_par (x y a : Int) : (2 * a - x * y - x * y) % 2 = 0 := by omega
theorem st_ex (x y a : Int) : ∃ n, St x y a n := least_ex (st_par x y a)
theorem St.uniq {x y a n m : Int} (h : St x y a n) (g : St x y a m) : n = m := Least.uniq h g
theorem St.pos {x y a n : Int} (h : St x y a n) : 0 ≤ n := by
  have := Least.ge h
  unfold ab at this
  omega
theorem St.home {x y a n : Int} (h : St x y a n) : n = 0 ↔ x = 0 ∧ y = 0 ∧ a = 0 := by
  rw [Least.zero h]
  constructor
  · rintro ⟨rfl, rfl, h3⟩
    exact ⟨rfl, rfl, by omega⟩
  · rintro ⟨rfl, rfl, rfl⟩
    exact ⟨rfl, rfl, rfl⟩
theorem ue (x y a : Int) : 2 * a - (x + 1) * y = (2 * a - x * y) - y := by rw [Int.add_mul]; omega
theorem uw (x y a : Int) : 2 * a - (x - 1) * y = (2 * a - x * y) + y := by rw [Int.sub_mul]; omega
theorem un (x y a : Int) : 2 * (a + x) - x * (y + 1) = (2 * a - x * y) + x := by rw [show x * (y + 1) = x * y + x by rw [Int.mul_add, Int.mul_one]]; omega
theorem us (x y a : Int) : 2 * (a - x) - x * (y - 1) = (2 * a - x * y) - x := by rw [show x * (y - 1) = x * y - x by rw [Int.mul_sub, Int.mul_one]]; omega
theorem ab_sub (u y : Int) : ab (u - y) ≤ ab u + ab y := by unfold ab; omega
theorem ab_add (u y : Int) : ab (u + y) ≤ ab u + ab y := by unfold ab; omega
/-- a step is one more or one less -/
theorem one_of {n m s t : Int} (h1 : m ≤ n + 1) (h2 : n ≤ m + 1) (p1 : n % 2 = s % 2) (p2 : m % 2 = t % 2) (st : (s - t) % 2 = 1) : m = n + 1 ∨ m = n - 1 := by omega
theorem St.e {x y a n m : Int} (h : St x y a n) (g : St (x + 1) y a m) : m = n + 1 ∨ m = n - 1 := by
  unfold St at h g
  rw [ue] at g
  have g2 := g
  refine one_of (lip_x (.inl rfl) (ab_sub _ _) h g) (lip_x (x' := x) (.inr (by omega)) (u' := 2 * a - x * y) ?_ g2 h) (Least.par h) (Least.par g) (by omega)
  have := ab_add ((2 * a - x * y) - y) y
  rw [show (2 * a - x * y) - y + y = 2 * a - x * y by omega] at this
  exact this
theorem St.w {x y a n m : Int} (h : St x y a n) (g : St (x - 1) y a m) : m = n + 1 ∨ m = n - 1 := by
  have := St.e g (by rw [show x - 1 + 1 = x by omega]; exact h)
  omega
theorem St.n {x y a n m : Int} (h : St x y a n) (g : St x (y + 1) (a + x) m) : m = n + 1 ∨ m = n - 1 := by
  unfold St at h g
  rw [un] at g
  have g2 := g
  refine one_of (lip_y (.inl rfl) (ab_add _ _) h g) (lip_y (y' := y) (.inr (by omega)) (u' := 2 * a - x * y) ?_ g2 h) (Least.par h) (Least.par g) (by omega)
  have := ab_sub ((2 * a - x * y) + x) x
  rw [show (2 * a - x * y) + x - x = 2 * a - x * y by omega] at this
  exact this
theorem St.s {x y a n m : Int} (h : St x y a n) (g : St x (y - 1) (a - x) m) : m = n + 1 ∨ m = n - 1 := by
  have := St.n g (by rw [show y - 1 + 1 = y by omega, show a - x + x = a by omega]; exact h)
  omega
theorem D.lt {x y u n m : Int} (d : D x y u n) (g : Least (ab x) (ab y) (ab u) m) : m < n := by
  obtain ⟨p, q, b, l⟩ := d
  have := g.low p q b
  omega
/-- some step leads one nearer -/
theorem St.nearer {x y a n me mw mn ms : Int} (h : St x y a n) (nz : ¬(x = 0 ∧ y = 0 ∧ a = 0)) (ge : St (x + 1) y a me) (gw : St (x - 1) y a mw) (gn : St x (y + 1) (a + x) mn) (gs : St x (y - 1) (a - x) ms) :
    me = n - 1 ∨ mw = n - 1 ∨ mn = n - 1 ∨ ms = n - 1 := by
  have oe := h.e ge
  have ow := h.w gw
  have on := h.n gn
  have os := h.s gs
  have d := near (st_par x y a) (by
    rintro ⟨rfl, rfl, h3⟩
    exact nz ⟨rfl, rfl, by omega⟩) h
  unfold St at ge gw gn gs
  rw [ue] at ge
  rw [uw] at gw
  rw [un] at gn
  rw [us] at gs
  rcases d with d | d | d | d
  · have := d.lt ge; omega
  · have := d.lt gw; omega
  · have := d.lt gn; omega
  · have := d.lt gs; omega
theorem St.parity {x y a n z w c m t : Int} (h : St x y a n) (g : St z w c m) (f : St (x + z) (y + w) (a + c + x * w) t) : (n + m - t) % 2 = 0 := by
  have := Least.par h
  have := Least.par g
  have := Least.par f
  omega
end Fewest
namespace Fewest
section
variable {w h : Int} (hh : 1 ≤ h) (hw : h ≤ w)
include hh hw
end
end Fewest

namespace Fewest
/-- the width of the best box -/
def bestW (X Y s : Int) : Int := min (max ((X + Y + s) / 2) X) (X + s)
theorem bestW_in {X Y s : Int} (hX : 0 ≤ X) (hY : 0 ≤ Y) (hs : 0 ≤ s) : X ≤ bestW X Y s ∧ bestW X Y s ≤ X + s ∧ Y ≤ X + Y + s - bestW X Y s := by
  unfold bestW
  omega
theorem prod_nn {a b : Int} (h : (0 ≤ a ∧ 0 ≤ b) ∨ (a ≤ 0 ∧ b ≤ 0)) : 0 ≤ a * b := by
  rcases h with ⟨h1, h2⟩ | ⟨h1, h2⟩
  · exact Int.mul_nonneg h1 h2
  · have := Int.mul_nonneg (show 0 ≤ -a by omega) (show 0 ≤ -b by omega)
    rw [Int.neg_mul_neg] at this
    exact this
/-- no box of these sides is greater -/
theorem best_box {X Y s p q : Int} (hX : 0 ≤ X) (hY : 0 ≤ Y) (hs : 0 ≤ s) (hp : X ≤ p) (hq : Y ≤ q) (h : p + q ≤ X + Y + s) : p * q ≤ bestW X Y s * (X + Y + s - bestW X Y s) := by
  have e1 : p * q ≤ p * (X + Y + s - p) := Int.mul_le_mul_of_nonneg_left (by omega) (by omega)
  obtain ⟨W, hW⟩ : ∃ W, bestW X Y s = W := ⟨_, rfl⟩
  rw [hW]
  have e2 : 0 ≤ (W - p) * (X + Y + s - W - p) := by
    refine prod_nn ?_
    unfold bestW at hW
    omega
  have e3 : W * (X + Y + s - W) = p * (X + Y + s - p) + (W - p) * (X + Y + s - W - p) := by grind
  omega
/-- exactly the places with ground within the best box are reached by n steps -/
theorem reach {x y a n k s : Int} (h : St x y a k) (hs : n - ab x - ab y = 2 * s) (s0 : 0 ≤ s) :
    (k ≤ n ∧ (n - k) % 2 = 0) ↔ ab (2 * a - x * y) + ab x * ab y ≤ 2 * (bestW (ab x) (ab y) s * (ab x + ab y + s - bestW (ab x) (ab y) s)) := by
  have hX : 0 ≤ ab x := by unfold ab; omega
  have hY : 0 ≤ ab y := by unfold ab; omega
  have bi := bestW_in hX hY s0
  constructor
  · rintro ⟨h1, _⟩
    obtain ⟨p, q, ⟨b1, b2, b3⟩, e⟩ := h.has
    have := best_box hX hY s0 b1 b2 (by omega)
    omega
  · intro c
    have l := h.low _ _ ⟨bi.1, bi.2.2, c⟩
    refine ⟨by omega, ?_⟩
    have p := Least.par h
    unfold ab at hs
    omega
/-- the least and the greatest area at (x, y) -/
theorem areas_of {x y a n k s W : Int} (h : St x y a k) (hs : n - ab x - ab y = 2 * s) (s0 : 0 ≤ s) (hW : bestW (ab x) (ab y) s = W) :
    (k ≤ n ∧ (n - k) % 2 = 0) ↔ (max 0 (x * y) - W * (ab x + ab y + s - W) ≤ a ∧ a ≤ W * (ab x + ab y + s - W) + min 0 (x * y)) := by
  rw [reach h hs s0, hW]
  have e1 : ab x * ab y = ab (x * y) := by unfold ab; rw [Int.natAbs_mul, Int.natCast_mul]
  rw [e1]
  generalize W * (ab x + ab y + s - W) = G
  generalize x * y = z
  unfold ab
  omega
/-- fewer steps than the sides, or of the other parity: none -/
theorem none_of {x y a n k : Int} (h : St x y a k) (c : n < ab x + ab y ∨ (n - ab x - ab y) % 2 = 1) : ¬(k ≤ n ∧ (n - k) % 2 = 0) := by
  have g := Least.ge h
  have p := Least.par h
  unfold ab at *
  omega
end Fewest
namespace Fewest
end Fewest

set_option linter.all false
set_option maxRecDepth 100000
set_option maxHeartbeats 4000000
namespace AW
open PySem PySem.Spec PyProof.Rows L2
def top (i : Nat) : Stmt := PySem.Challenge.pw_areawalks_k20_walks_counted.main.body.getD i (.Pass ⟨0, 0, 0, 0⟩)
abbrev s_BadNumber_init : Stmt := inClass (top 4) 0
abbrev s_BadPlace_init : Stmt := inClass (top 5) 0
abbrev s_TooFar_init : Stmt := inClass (top 6) 0
abbrev s_is_integer : Stmt := top 8
abbrev s_check_integer : Stmt := top 9
abbrev s_check_from : Stmt := top 10
abbrev s_check_whole : Stmt := top 11
abbrev s_fewest_steps : Stmt := top 13
abbrev s_quotient_up : Stmt := top 14
abbrev s_half_outline : Stmt := top 15
abbrev s_best_sides : Stmt := top 16
abbrev s_spare_steps : Stmt := top 17
abbrev s_areas_of_walks : Stmt := top 18
abbrev s_walks_by_halves : Stmt := top 20
abbrev s_step_further : Stmt := top 21
abbrev s_joined_walks : Stmt := top 22
abbrev s_Place_init : Stmt := inClass (top 24) 0
abbrev s_Place_invert : Stmt := inClass (top 24) 3
abbrev s_Place_lifted : Stmt := inClass (top 24) 6
abbrev s_check_place : Stmt := top 25
abbrev s_sphere_places : Stmt := top 28
abbrev s_walks_to : Stmt := top 29
abbrev s_least_walks : Stmt := top 30
abbrev s_check_near : Stmt := top 31
abbrev s_new_areas : Stmt := top 32
abbrev s_steps : Stmt := top 34
abbrev s_l_pen : Stmt := top 36
abbrev s_l_draw : Stmt := top 37
abbrev s_l_pick : Stmt := top 38
abbrev s_l_great : Stmt := top 39
abbrev s_l_gone : Stmt := top 40
abbrev s_l_spot : Stmt := top 41
abbrev s_l_place : Stmt := top 42
abbrev s_l_times : Stmt := top 43
abbrev s_l_undone : Stmt := top 44
abbrev s_l_counted : Stmt := top 45
abbrev s_l_refused : Stmt := top 46
abbrev s_l_far_right : Stmt := top 47
abbrev s_l_wrong_right : Stmt := top 48
abbrev s_law : Stmt := top 49
abbrev N_BadNumber_init : List Str := ["self", "value"]
abbrev P_BadNumber_init : List Str := ["self", "value"]
theorem sc_BadNumber_init : FnScope N_BadNumber_init P_BadNumber_init (defScope s_BadNumber_init) := ⟨rfl, rfl, rfl, by decide +kernel, rfl, by decide +kernel, by decide +kernel⟩
abbrev N_BadPlace_init : List Str := ["self", "value"]
abbrev P_BadPlace_init : List Str := ["self", "value"]
theorem sc_BadPlace_init : FnScope N_BadPlace_init P_BadPlace_init (defScope s_BadPlace_init) := ⟨rfl, rfl, rfl, by decide +kernel, rfl, by decide +kernel, by decide +kernel⟩
abbrev N_TooFar_init : List Str := ["self", "number"]
abbrev P_TooFar_init : List Str := ["self", "number"]
theorem sc_TooFar_init : FnScope N_TooFar_init P_TooFar_init (defScope s_TooFar_init) := ⟨rfl, rfl, rfl, by decide +kernel, rfl, by decide +kernel, by decide +kernel⟩
abbrev N_is_integer : List Str := ["value"]
abbrev P_is_integer : List Str := ["value"]
theorem sc_is_integer : FnScope N_is_integer P_is_integer (defScope s_is_integer) := ⟨rfl, rfl, rfl, by decide +kernel, rfl, by decide +kernel, by decide +kernel⟩
abbrev N_check_integer : List Str := ["value"]
abbrev P_check_integer : List Str := ["value"]
theorem sc_check_integer : FnScope N_check_integer P_check_integer (defScope s_check_integer) := ⟨rfl, rfl, rfl, by decide +kernel, rfl, by decide +kernel, by decide +kernel⟩
abbrev N_check_from : List Str := ["value", "least"]
abbrev P_check_from : List Str := ["value", "least"]
theorem sc_check_from : FnScope N_check_from P_check_from (defScope s_check_from) := ⟨rfl, rfl, rfl, by decide +kernel, rfl, by decide +kernel, by decide +kernel⟩
abbrev N_check_whole : List Str := ["value"]
abbrev P_check_whole : List Str := ["value"]
theorem sc_check_whole : FnScope N_check_whole P_check_whole (defScope s_check_whole) := ⟨rfl, rfl, rfl, by decide +kernel, rfl, by decide +kernel, by decide +kernel⟩
abbrev N_fewest_steps : List Str := ["place", "longer", "shorter", "area"]
abbrev P_fewest_steps : List Str := ["place"]
theorem sc_fewest_steps : FnScope N_fewest_steps P_fewest_steps (defScope s_fewest_steps) := ⟨rfl, rfl, rfl, by decide +kernel, rfl, by decide +kernel, by decide +kernel⟩
abbrev N_quotient_up : List Str := ["number", "divisor"]
abbrev P_quotient_up : List Str := ["number", "divisor"]
theorem sc_quotient_up : FnScope N_quotient_up P_quotient_up (defScope s_quotient_up) := ⟨rfl, rfl, rfl, by decide +kernel, rfl, by decide +kernel, by decide +kernel⟩
abbrev N_half_outline : List Str := ["area"]
abbrev P_half_outline : List Str := ["area"]
theorem sc_half_outline : FnScope N_half_outline P_half_outline (defScope s_half_outline) := ⟨rfl, rfl, rfl, by decide +kernel, rfl, by decide +kernel, by decide +kernel⟩
abbrev N_best_sides : List Str := ["across", "up", "spare", "total", "width"]
abbrev P_best_sides : List Str := ["across", "up", "spare"]
theorem sc_best_sides : FnScope N_best_sides P_best_sides (defScope s_best_sides) := ⟨rfl, rfl, rfl, by decide +kernel, rfl, by decide +kernel, by decide +kernel⟩
abbrev N_spare_steps : List Str := ["x", "y", "number", "beyond"]
abbrev P_spare_steps : List Str := ["x", "y", "number"]
theorem sc_spare_steps : FnScope N_spare_steps P_spare_steps (defScope s_spare_steps) := ⟨rfl, rfl, rfl, by decide +kernel, rfl, by decide +kernel, by decide +kernel⟩
abbrev N_areas_of_walks : List Str := ["x", "y", "number", "spare", "width", "height"]
abbrev P_areas_of_walks : List Str := ["x", "y", "number"]
theorem sc_areas_of_walks : FnScope N_areas_of_walks P_areas_of_walks (defScope s_areas_of_walks) := ⟨rfl, rfl, rfl, by decide +kernel, rfl, by decide +kernel, by decide +kernel⟩
abbrev N_walks_by_halves : List Str := ["place", "number", "slot", "later", "deep", "fronts", "_", "behinds"]
abbrev P_walks_by_halves : List Str := ["place", "number"]
theorem sc_walks_by_halves : FnScope N_walks_by_halves P_walks_by_halves (defScope s_walks_by_halves) := ⟨rfl, rfl, rfl, by decide +kernel, rfl, by decide +kernel, by decide +kernel⟩
abbrev N_step_further : List Str := ["packs", "slot", "further", "square", "x", "y", "pack", "up", "down"]
abbrev P_step_further : List Str := ["packs", "slot"]
theorem sc_step_further : FnScope N_step_further P_step_further (defScope s_step_further) := ⟨rfl, rfl, rfl, by decide +kernel, rfl, by decide +kernel, by decide +kernel⟩
abbrev N_joined_walks : List Str := ["fronts", "behinds", "place", "slot", "total", "square", "x", "y", "across", "up", "area"]
abbrev P_joined_walks : List Str := ["fronts", "behinds", "place", "slot"]
theorem sc_joined_walks : FnScope N_joined_walks P_joined_walks (defScope s_joined_walks) := ⟨rfl, rfl, rfl, by decide +kernel, rfl, by decide +kernel, by decide +kernel⟩
abbrev N_Place_init : List Str := ["self", "x", "y", "area", "value"]
abbrev P_Place_init : List Str := ["self", "x", "y", "area"]
theorem sc_Place_init : FnScope N_Place_init P_Place_init (defScope s_Place_init) := ⟨rfl, rfl, rfl, by decide +kernel, rfl, by decide +kernel, by decide +kernel⟩
abbrev N_Place_invert : List Str := ["self"]
abbrev P_Place_invert : List Str := ["self"]
theorem sc_Place_invert : FnScope N_Place_invert P_Place_invert (defScope s_Place_invert) := ⟨rfl, rfl, rfl, by decide +kernel, rfl, by decide +kernel, by decide +kernel⟩
abbrev N_Place_lifted : List Str := ["self", "storeys"]
abbrev P_Place_lifted : List Str := ["self", "storeys"]
theorem sc_Place_lifted : FnScope N_Place_lifted P_Place_lifted (defScope s_Place_lifted) := ⟨rfl, rfl, rfl, by decide +kernel, rfl, by decide +kernel, by decide +kernel⟩
abbrev N_check_place : List Str := ["value"]
abbrev P_check_place : List Str := ["value"]
theorem sc_check_place : FnScope N_check_place P_check_place (defScope s_check_place) := ⟨rfl, rfl, rfl, by decide +kernel, rfl, by decide +kernel, by decide +kernel⟩
abbrev N_sphere_places : List Str := ["number", "places", "x", "y", "area"]
abbrev P_sphere_places : List Str := ["number"]
theorem sc_sphere_places : FnScope N_sphere_places P_sphere_places (defScope s_sphere_places) := ⟨rfl, rfl, rfl, by decide +kernel, rfl, by decide +kernel, by decide +kernel⟩
abbrev N_walks_to : List Str := ["place", "number", "bounds"]
abbrev P_walks_to : List Str := ["place", "number"]
theorem sc_walks_to : FnScope N_walks_to P_walks_to (defScope s_walks_to) := ⟨rfl, rfl, rfl, by decide +kernel, rfl, by decide +kernel, by decide +kernel⟩
abbrev N_least_walks : List Str := ["place"]
abbrev P_least_walks : List Str := ["place"]
theorem sc_least_walks : FnScope N_least_walks P_least_walks (defScope s_least_walks) := ⟨rfl, rfl, rfl, by decide +kernel, rfl, by decide +kernel, by decide +kernel⟩
abbrev N_check_near : List Str := ["number"]
abbrev P_check_near : List Str := ["number"]
theorem sc_check_near : FnScope N_check_near P_check_near (defScope s_check_near) := ⟨rfl, rfl, rfl, by decide +kernel, rfl, by decide +kernel, by decide +kernel⟩
abbrev N_new_areas : List Str := ["x", "y", "number", "bounds", "least", "greatest", "before"]
abbrev P_new_areas : List Str := ["x", "y", "number"]
theorem sc_new_areas : FnScope N_new_areas P_new_areas (defScope s_new_areas) := ⟨rfl, rfl, rfl, by decide +kernel, rfl, by decide +kernel, by decide +kernel⟩
abbrev N_steps : List Str := ["place"]
abbrev P_steps : List Str := ["place"]
theorem sc_steps : FnScope N_steps P_steps (defScope s_steps) := ⟨rfl, rfl, rfl, by decide +kernel, rfl, by decide +kernel, by decide +kernel⟩
abbrev N_l_pen : List Str := ["_law_script"]
abbrev P_l_pen : List Str := ["_law_script"]
theorem sc_l_pen : FnScope N_l_pen P_l_pen (defScope s_l_pen) := ⟨rfl, rfl, rfl, by decide +kernel, rfl, by decide +kernel, by decide +kernel⟩
abbrev N_l_draw : List Str := ["_law_pen_here", "_law_span", "_law_digit", "_law_at", "_law_cell", "_law_mash"]
abbrev P_l_draw : List Str := ["_law_pen_here", "_law_span"]
theorem sc_l_draw : FnScope N_l_draw P_l_draw (defScope s_l_draw) := ⟨rfl, rfl, rfl, by decide +kernel, rfl, by decide +kernel, by decide +kernel⟩
abbrev N_l_pick : List Str := ["_law_pen_here", "_law_items"]
abbrev P_l_pick : List Str := ["_law_pen_here", "_law_items"]
theorem sc_l_pick : FnScope N_l_pick P_l_pick (defScope s_l_pick) := ⟨rfl, rfl, rfl, by decide +kernel, rfl, by decide +kernel, by decide +kernel⟩
abbrev N_l_great : List Str := ["_law_pen_here", "_law_figures", "_law_found", "_law_go"]
abbrev P_l_great : List Str := ["_law_pen_here", "_law_figures"]
theorem sc_l_great : FnScope N_l_great P_l_great (defScope s_l_great) := ⟨rfl, rfl, rfl, by decide +kernel, rfl, by decide +kernel, by decide +kernel⟩
abbrev N_l_gone : List Str := ["_law_spot_here", "_law_letter", "_law_times_here", "_law_x", "_law_y", "_law_area"]
abbrev P_l_gone : List Str := ["_law_spot_here", "_law_letter", "_law_times_here"]
theorem sc_l_gone : FnScope N_l_gone P_l_gone (defScope s_l_gone) := ⟨rfl, rfl, rfl, by decide +kernel, rfl, by decide +kernel, by decide +kernel⟩
abbrev N_l_spot : List Str := ["_law_place_here"]
abbrev P_l_spot : List Str := ["_law_place_here"]
theorem sc_l_spot : FnScope N_l_spot P_l_spot (defScope s_l_spot) := ⟨rfl, rfl, rfl, by decide +kernel, rfl, by decide +kernel, by decide +kernel⟩
abbrev N_l_place : List Str := ["_law_spot_here"]
abbrev P_l_place : List Str := ["_law_spot_here"]
theorem sc_l_place : FnScope N_l_place P_l_place (defScope s_l_place) := ⟨rfl, rfl, rfl, by decide +kernel, rfl, by decide +kernel, by decide +kernel⟩
abbrev N_l_times : List Str := ["_law_one", "_law_other"]
abbrev P_l_times : List Str := ["_law_one", "_law_other"]
theorem sc_l_times : FnScope N_l_times P_l_times (defScope s_l_times) := ⟨rfl, rfl, rfl, by decide +kernel, rfl, by decide +kernel, by decide +kernel⟩
abbrev N_l_undone : List Str := ["_law_spot_here"]
abbrev P_l_undone : List Str := ["_law_spot_here"]
theorem sc_l_undone : FnScope N_l_undone P_l_undone (defScope s_l_undone) := ⟨rfl, rfl, rfl, by decide +kernel, rfl, by decide +kernel, by decide +kernel⟩
abbrev N_l_counted : List Str := ["_law_number", "_law_found", "_law_go", "_law_later", "_law_spot_here", "_law_letter", "_law_there"]
abbrev P_l_counted : List Str := ["_law_number"]
theorem sc_l_counted : FnScope N_l_counted P_l_counted (defScope s_l_counted) := ⟨rfl, rfl, rfl, by decide +kernel, rfl, by decide +kernel, by decide +kernel⟩
abbrev N_l_refused : List Str := ["_law_deed", "e"]
abbrev P_l_refused : List Str := ["_law_deed"]
theorem sc_l_refused : FnScope N_l_refused P_l_refused (defScope s_l_refused) := ⟨rfl, rfl, rfl, by decide +kernel, rfl, by decide +kernel, by decide +kernel⟩
abbrev N_l_far_right : List Str := ["_law_pen_here", "_law_number", "_law_part", "_law_spot_here", "_law_go", "_law_begun", "_law_total", "_law_middle", "_law_place_here", "_law_turned"]
abbrev P_l_far_right : List Str := ["_law_pen_here"]
theorem sc_l_far_right : FnScope N_l_far_right P_l_far_right (defScope s_l_far_right) := ⟨rfl, rfl, rfl, by decide +kernel, rfl, by decide +kernel, by decide +kernel⟩
abbrev N_l_wrong_right : List Str := ["_law_pen_here", "_law_some", "_law_distant", "_law_odd", "_law_wrong"]
abbrev P_l_wrong_right : List Str := ["_law_pen_here"]
theorem sc_l_wrong_right : FnScope N_l_wrong_right P_l_wrong_right (defScope s_l_wrong_right) := ⟨rfl, rfl, rfl, by decide +kernel, rfl, by decide +kernel, by decide +kernel⟩
abbrev N_law : List Str := ["_law_script", "_law_pen_here", "_law_number", "_law_due", "_law_spot_here", "_law_place_here"]
abbrev P_law : List Str := ["_law_script"]
theorem sc_law : FnScope N_law P_law (defScope s_law) := ⟨rfl, rfl, rfl, by decide +kernel, rfl, by decide +kernel, by decide +kernel⟩
/-- a def whose code object is known -/
structure FunC (K : PySem.W.Frag) (x qual : Str) (st : Stmt) (f : Addr) (fd : FuncData) (c : Addr) : Prop where
  ex : ∃ (oc : Value) (od : Option Addr) (kV doc pm : Value) (an : Option Addr) (ct : Value) (osl : Array (Option Value)),
    fd = PySem.W.fnOf x qual (defArgs st) (defBody st) (defScope st) .none kV doc pm an (.ref c) ct ∧ K.lookup f = some ⟨oc, od, .func fd, osl⟩ ∧ PySem.W.codeIn K (.ref c) qual = true
  kp : PySem.W.keepIn K (.ref f) = true
section
variable {P : Program} {w : World} {K : PySem.W.Frag} {mg : Str → Option Value} {base : Heap}
theorem FunC.okX {x qual : Str} {st : Stmt} {f : Addr} {fd : FuncData} {c : Addr} {N ps : List Str} {k : Nat} {sp : Sp} (F : FunC K x qual st f fd c) (S : FnScope N ps (defScope st)) (len : ∀ vs H Q E, sp vs H Q E → vs.length = ps.length)
    (hbody : ∀ (A : Around) (outer : List Env) (s : Shared) (H : Hp) (vs : List V) (Q : VK) (E : XK), Room k (A.deeper (envOfC qual (defScope st) s.heap.objs.size f (.ref c))) → sp vs H Q E →
      ∃ t, PSs (cxOf (L2.CX P w) P w K mg base N qual (defScope st) f (.ref c) A outer s H E) (defBody st) t ∧ t { nx := fun _ H' => Q .non H', rt := Q } (start N vs) H) : FnOk P w K mg base (L2.CX P w) (k + 1) f fd ps sp := by
  obtain ⟨oc, od, kV, doc, pm, an, ct, osl, rfl, lk, hcd⟩ := F.ex
  exact fn_of lk hcd S len fun A outer s H vs Q E hr hsp => hbody A outer s H vs Q E hr hsp
end
set_option genInjectivity false in
set_option genSizeOf false in
set_option genSizeOfSpec false in
/-- what the top has left -/
structure Tx (K : PySem.W.Frag) (mg : Str → Option Value) where
  a_is_integer : Addr
  d_is_integer : FuncData
  F_is_integer : Fun K "is_integer" "is_integer" s_is_integer a_is_integer d_is_integer
  b_is_integer : Binds K d_is_integer P_is_integer []
  g_is_integer : mg "is_integer" = some (.ref a_is_integer)
  a_check_integer : Addr
  d_check_integer : FuncData
  F_check_integer : Fun K "check_integer" "check_integer" s_check_integer a_check_integer d_check_integer
  b_check_integer : Binds K d_check_integer P_check_integer []
  g_check_integer : mg "check_integer" = some (.ref a_check_integer)
  a_check_from : Addr
  d_check_from : FuncData
  F_check_from : Fun K "check_from" "check_from" s_check_from a_check_from d_check_from
  b_check_from : Binds K d_check_from P_check_from []
  g_check_from : mg "check_from" = some (.ref a_check_from)
  a_check_whole : Addr
  d_check_whole : FuncData
  F_check_whole : Fun K "check_whole" "check_whole" s_check_whole a_check_whole d_check_whole
  b_check_whole : Binds K d_check_whole P_check_whole []
  g_check_whole : mg "check_whole" = some (.ref a_check_whole)
  a_fewest_steps : Addr
  d_fewest_steps : FuncData
  F_fewest_steps : Fun K "fewest_steps" "fewest_steps" s_fewest_steps a_fewest_steps d_fewest_steps
  b_fewest_steps : Binds K d_fewest_steps P_fewest_steps []
  g_fewest_steps : mg "fewest_steps" = some (.ref a_fewest_steps)
  a_quotient_up : Addr
  d_quotient_up : FuncData
  F_quotient_up : Fun K "quotient_up" "quotient_up" s_quotient_up a_quotient_up d_quotient_up
  b_quotient_up : Binds K d_quotient_up P_quotient_up []
  g_quotient_up : mg "quotient_up" = some (.ref a_quotient_up)
  a_half_outline : Addr
  d_half_outline : FuncData
  F_half_outline : Fun K "half_outline" "half_outline" s_half_outline a_half_outline d_half_outline
  b_half_outline : Binds K d_half_outline P_half_outline []
  g_half_outline : mg "half_outline" = some (.ref a_half_outline)
  a_best_sides : Addr
  d_best_sides : FuncData
  F_best_sides : Fun K "best_sides" "best_sides" s_best_sides a_best_sides d_best_sides
  b_best_sides : Binds K d_best_sides P_best_sides []
  g_best_sides : mg "best_sides" = some (.ref a_best_sides)
  a_spare_steps : Addr
  d_spare_steps : FuncData
  F_spare_steps : Fun K "spare_steps" "spare_steps" s_spare_steps a_spare_steps d_spare_steps
  b_spare_steps : Binds K d_spare_steps P_spare_steps []
  g_spare_steps : mg "spare_steps" = some (.ref a_spare_steps)
  a_areas_of_walks : Addr
  d_areas_of_walks : FuncData
  F_areas_of_walks : Fun K "areas_of_walks" "areas_of_walks" s_areas_of_walks a_areas_of_walks d_areas_of_walks
  b_areas_of_walks : Binds K d_areas_of_walks P_areas_of_walks []
  g_areas_of_walks : mg "areas_of_walks" = some (.ref a_areas_of_walks)
  a_walks_by_halves : Addr
  d_walks_by_halves : FuncData
  F_walks_by_halves : Fun K "walks_by_halves" "walks_by_halves" s_walks_by_halves a_walks_by_halves d_walks_by_halves
  b_walks_by_halves : Binds K d_walks_by_halves P_walks_by_halves []
  g_walks_by_halves : mg "walks_by_halves" = some (.ref a_walks_by_halves)
  a_step_further : Addr
  d_step_further : FuncData
  F_step_further : Fun K "step_further" "step_further" s_step_further a_step_further d_step_further
  b_step_further : Binds K d_step_further P_step_further []
  g_step_further : mg "step_further" = some (.ref a_step_further)
  a_joined_walks : Addr
  d_joined_walks : FuncData
  F_joined_walks : Fun K "joined_walks" "joined_walks" s_joined_walks a_joined_walks d_joined_walks
  b_joined_walks : Binds K d_joined_walks P_joined_walks []
  g_joined_walks : mg "joined_walks" = some (.ref a_joined_walks)
  a_check_place : Addr
  d_check_place : FuncData
  F_check_place : Fun K "check_place" "check_place" s_check_place a_check_place d_check_place
  b_check_place : Binds K d_check_place P_check_place []
  g_check_place : mg "check_place" = some (.ref a_check_place)
  a_sphere_places : Addr
  d_sphere_places : FuncData
  F_sphere_places : Fun K "sphere_places" "sphere_places" s_sphere_places a_sphere_places d_sphere_places
  b_sphere_places : Binds K d_sphere_places P_sphere_places []
  g_sphere_places : mg "sphere_places" = some (.ref a_sphere_places)
  a_walks_to : Addr
  d_walks_to : FuncData
  F_walks_to : Fun K "walks_to" "walks_to" s_walks_to a_walks_to d_walks_to
  b_walks_to : Binds K d_walks_to P_walks_to []
  g_walks_to : mg "walks_to" = some (.ref a_walks_to)
  a_least_walks : Addr
  d_least_walks : FuncData
  F_least_walks : Fun K "least_walks" "least_walks" s_least_walks a_least_walks d_least_walks
  b_least_walks : Binds K d_least_walks P_least_walks []
  g_least_walks : mg "least_walks" = some (.ref a_least_walks)
  a_check_near : Addr
  d_check_near : FuncData
  F_check_near : Fun K "check_near" "check_near" s_check_near a_check_near d_check_near
  b_check_near : Binds K d_check_near P_check_near []
  g_check_near : mg "check_near" = some (.ref a_check_near)
  a_new_areas : Addr
  d_new_areas : FuncData
  F_new_areas : Fun K "new_areas" "new_areas" s_new_areas a_new_areas d_new_areas
  b_new_areas : Binds K d_new_areas P_new_areas []
  g_new_areas : mg "new_areas" = some (.ref a_new_areas)
  a_steps : Addr
  d_steps : FuncData
  F_steps : Fun K "steps" "steps" s_steps a_steps d_steps
  b_steps : Binds K d_steps P_steps []
  g_steps : mg "steps" = some (.ref a_steps)
  a_l_pen : Addr
  d_l_pen : FuncData
  F_l_pen : Fun K "_law_pen" "_law_pen" s_l_pen a_l_pen d_l_pen
  b_l_pen : Binds K d_l_pen P_l_pen []
  g_l_pen : mg "_law_pen" = some (.ref a_l_pen)
  a_l_draw : Addr
  d_l_draw : FuncData
  F_l_draw : Fun K "_law_draw" "_law_draw" s_l_draw a_l_draw d_l_draw
  b_l_draw : Binds K d_l_draw P_l_draw []
  g_l_draw : mg "_law_draw" = some (.ref a_l_draw)
  a_l_pick : Addr
  d_l_pick : FuncData
  F_l_pick : Fun K "_law_pick" "_law_pick" s_l_pick a_l_pick d_l_pick
  b_l_pick : Binds K d_l_pick P_l_pick []
  g_l_pick : mg "_law_pick" = some (.ref a_l_pick)
  a_l_great : Addr
  d_l_great : FuncData
  F_l_great : Fun K "_law_great" "_law_great" s_l_great a_l_great d_l_great
  b_l_great : Binds K d_l_great P_l_great []
  g_l_great : mg "_law_great" = some (.ref a_l_great)
  a_l_gone : Addr
  d_l_gone : FuncData
  F_l_gone : Fun K "_law_gone" "_law_gone" s_l_gone a_l_gone d_l_gone
  b_l_gone : Binds K d_l_gone P_l_gone []
  g_l_gone : mg "_law_gone" = some (.ref a_l_gone)
  a_l_spot : Addr
  d_l_spot : FuncData
  F_l_spot : Fun K "_law_spot" "_law_spot" s_l_spot a_l_spot d_l_spot
  b_l_spot : Binds K d_l_spot P_l_spot []
  g_l_spot : mg "_law_spot" = some (.ref a_l_spot)
  a_l_place : Addr
  d_l_place : FuncData
  F_l_place : Fun K "_law_place" "_law_place" s_l_place a_l_place d_l_place
  b_l_place : Binds K d_l_place P_l_place []
  g_l_place : mg "_law_place" = some (.ref a_l_place)
  a_l_times : Addr
  d_l_times : FuncData
  F_l_times : Fun K "_law_times" "_law_times" s_l_times a_l_times d_l_times
  b_l_times : Binds K d_l_times P_l_times []
  g_l_times : mg "_law_times" = some (.ref a_l_times)
  a_l_undone : Addr
  d_l_undone : FuncData
  F_l_undone : Fun K "_law_undone" "_law_undone" s_l_undone a_l_undone d_l_undone
  b_l_undone : Binds K d_l_undone P_l_undone []
  g_l_undone : mg "_law_undone" = some (.ref a_l_undone)
  a_l_counted : Addr
  d_l_counted : FuncData
  F_l_counted : Fun K "_law_counted" "_law_counted" s_l_counted a_l_counted d_l_counted
  b_l_counted : Binds K d_l_counted P_l_counted []
  g_l_counted : mg "_law_counted" = some (.ref a_l_counted)
  a_l_refused : Addr
  d_l_refused : FuncData
  F_l_refused : Fun K "_law_refused" "_law_refused" s_l_refused a_l_refused d_l_refused
  b_l_refused : Binds K d_l_refused P_l_refused []
  g_l_refused : mg "_law_refused" = some (.ref a_l_refused)
  a_l_far_right : Addr
  d_l_far_right : FuncData
  F_l_far_right : Fun K "_law_far_right" "_law_far_right" s_l_far_right a_l_far_right d_l_far_right
  b_l_far_right : Binds K d_l_far_right P_l_far_right []
  g_l_far_right : mg "_law_far_right" = some (.ref a_l_far_right)
  a_l_wrong_right : Addr
  d_l_wrong_right : FuncData
  cc_l_wrong_right : Addr
  pt_l_wrong_right : Addr
  h_l_wrong_right : PySem.W.codeHdIn K cc_l_wrong_right pt_l_wrong_right = true
  n_l_wrong_right : K.lookup pt_l_wrong_right = none
  FC_l_wrong_right : FunC K "_law_wrong_right" "_law_wrong_right" s_l_wrong_right a_l_wrong_right d_l_wrong_right cc_l_wrong_right
  F_l_wrong_right : Fun K "_law_wrong_right" "_law_wrong_right" s_l_wrong_right a_l_wrong_right d_l_wrong_right
  b_l_wrong_right : Binds K d_l_wrong_right P_l_wrong_right []
  g_l_wrong_right : mg "_law_wrong_right" = some (.ref a_l_wrong_right)
  a_law : Addr
  d_law : FuncData
  F_law : Fun K "law" "law" s_law a_law d_law
  b_law : Binds K d_law P_law []
  g_law : mg "law" = some (.ref a_law)
  C_BadNumber : Addr
  g_C_BadNumber : mg "BadNumber" = some (.ref C_BadNumber)
  a_BadNumber_init : Addr
  d_BadNumber_init : FuncData
  F_BadNumber_init : Fun K "__init__" "BadNumber.__init__" s_BadNumber_init a_BadNumber_init d_BadNumber_init
  b_BadNumber_init : Binds K d_BadNumber_init P_BadNumber_init []
  X_BadNumber : OexC K C_BadNumber
  Y_BadNumber : XfC K C_BadNumber
  ei_BadNumber : PySem.W.findIn K (.ref C_BadNumber) "__init__" = some (some (.ref a_BadNumber_init))
  et_BadNumber : PySem.W.typeIn K (.ref a_BadNumber_init) = some (.type "function")
  na_BadNumber_value : PySem.W.findIn K (.ref C_BadNumber) "value" = some none
  C_BadPlace : Addr
  g_C_BadPlace : mg "BadPlace" = some (.ref C_BadPlace)
  a_BadPlace_init : Addr
  d_BadPlace_init : FuncData
  F_BadPlace_init : Fun K "__init__" "BadPlace.__init__" s_BadPlace_init a_BadPlace_init d_BadPlace_init
  b_BadPlace_init : Binds K d_BadPlace_init P_BadPlace_init []
  X_BadPlace : OexC K C_BadPlace
  Y_BadPlace : XfC K C_BadPlace
  ei_BadPlace : PySem.W.findIn K (.ref C_BadPlace) "__init__" = some (some (.ref a_BadPlace_init))
  et_BadPlace : PySem.W.typeIn K (.ref a_BadPlace_init) = some (.type "function")
  na_BadPlace_value : PySem.W.findIn K (.ref C_BadPlace) "value" = some none
  C_TooFar : Addr
  g_C_TooFar : mg "TooFar" = some (.ref C_TooFar)
  a_TooFar_init : Addr
  d_TooFar_init : FuncData
  F_TooFar_init : Fun K "__init__" "TooFar.__init__" s_TooFar_init a_TooFar_init d_TooFar_init
  b_TooFar_init : Binds K d_TooFar_init P_TooFar_init []
  X_TooFar : OexC K C_TooFar
  Y_TooFar : XfC K C_TooFar
  ei_TooFar : PySem.W.findIn K (.ref C_TooFar) "__init__" = some (some (.ref a_TooFar_init))
  et_TooFar : PySem.W.typeIn K (.ref a_TooFar_init) = some (.type "function")
  na_TooFar_number : PySem.W.findIn K (.ref C_TooFar) "number" = some none
  C_Place : Addr
  g_C_Place : mg "Place" = some (.ref C_Place)
  cl_Place : Cls K C_Place
  ca_Place : PySem.W.findIn K (.ref C_Place) "__class__" = some (some (.builtin "object.__class__"))
  cm_Place : PySem.W.mroIn K C_Place (.type "object") = some true
  na_Place_x : NoAttr K C_Place "x"
  na_Place_y : NoAttr K C_Place "y"
  na_Place_area : NoAttr K C_Place "area"
  a_Place_init : Addr
  d_Place_init : FuncData
  F_Place_init : Fun K "__init__" "Place.__init__" s_Place_init a_Place_init d_Place_init
  b_Place_init : Binds K d_Place_init P_Place_init []
  M_Place : Mk K C_Place a_Place_init
  a_Place_invert : Addr
  d_Place_invert : FuncData
  F_Place_invert : Fun K "__invert__" "Place.__invert__" s_Place_invert a_Place_invert d_Place_invert
  b_Place_invert : Binds K d_Place_invert P_Place_invert []
  m_Place_invert : PySem.W.findIn K (.ref C_Place) "__invert__" = some (some (.ref a_Place_invert))
  i_Place_invert : PySem.W.isFn K (.ref a_Place_invert) = true
  a_Place_lifted : Addr
  d_Place_lifted : FuncData
  F_Place_lifted : Fun K "lifted" "Place.lifted" s_Place_lifted a_Place_lifted d_Place_lifted
  b_Place_lifted : Binds K d_Place_lifted P_Place_lifted []
  M_Place_lifted : Meth K C_Place "lifted" a_Place_lifted
  cn : PySem.W.specialIn K (.builtin "object.__class__") "__get__" = some (some (.builtin "getset_descriptor.__get__"))
  ct : PySem.W.takesIn K (.builtin "object.__class__") = some true
  io_Place_int : PySem.W.kitOne K (.ref C_Place) (.type "int") = some false
  io_Place_bool : PySem.W.kitOne K (.ref C_Place) (.type "bool") = some false
  is_NoneType_Place : PySem.W.kitOne K (.type "NoneType") (.ref C_Place) = some false
  is_bool_Place : PySem.W.kitOne K (.type "bool") (.ref C_Place) = some false
  is_int_Place : PySem.W.kitOne K (.type "int") (.ref C_Place) = some false
  is_str_Place : PySem.W.kitOne K (.type "str") (.ref C_Place) = some false
  is_list_Place : PySem.W.kitOne K (.type "list") (.ref C_Place) = some false
  is_tuple_Place : PySem.W.kitOne K (.type "tuple") (.ref C_Place) = some false
  is_dict_Place : PySem.W.kitOne K (.type "dict") (.ref C_Place) = some false
  em_BadNumber_BadNumber : PySem.W.exmOne K (.ref C_BadNumber) (.ref C_BadNumber) = some true
  em_TooFar_BadNumber : PySem.W.exmOne K (.ref C_TooFar) (.ref C_BadNumber) = some false
  em_BadNumber_BadPlace : PySem.W.exmOne K (.ref C_BadNumber) (.ref C_BadPlace) = some false
  em_BadPlace_BadPlace : PySem.W.exmOne K (.ref C_BadPlace) (.ref C_BadPlace) = some true
  em_TooFar_BadPlace : PySem.W.exmOne K (.ref C_TooFar) (.ref C_BadPlace) = some false
  em_TooFar_TooFar : PySem.W.exmOne K (.ref C_TooFar) (.ref C_TooFar) = some true
  n_abs : mg "abs" = none
  n_bool : mg "bool" = none
  n_int : mg "int" = none
  n_isinstance : mg "isinstance" = none
  n_len : mg "len" = none
  n_list : mg "list" = none
  n_max : mg "max" = none
  n_min : mg "min" = none
  n_range : mg "range" = none
  tk_MOST_STEPS : Tok
  gc_MOST_STEPS : mg "MOST_STEPS" = some (.int 20 tk_MOST_STEPS)
  mi_isqrt : mg "isqrt" = some (.builtin "math.isqrt")
theorem tx_mk {K : PySem.W.Frag} {h : Heap} {mg : Str → Option Value} {fa : Addr} {f_BadNumber_init : Addr} {od_BadNumber_init an_BadNumber_init : Option Addr} {sl_BadNumber_init : Array (Option Value)} {oc_BadNumber_init kV_BadNumber_init dc_BadNumber_init pm_BadNumber_init cd_BadNumber_init ct_BadNumber_init : Value}
    {f_BadPlace_init : Addr} {od_BadPlace_init an_BadPlace_init : Option Addr} {sl_BadPlace_init : Array (Option Value)} {oc_BadPlace_init kV_BadPlace_init dc_BadPlace_init pm_BadPlace_init cd_BadPlace_init ct_BadPlace_init : Value}
    {f_TooFar_init : Addr} {od_TooFar_init an_TooFar_init : Option Addr} {sl_TooFar_init : Array (Option Value)} {oc_TooFar_init kV_TooFar_init dc_TooFar_init pm_TooFar_init cd_TooFar_init ct_TooFar_init : Value}
    {f_is_integer : Addr} {od_is_integer an_is_integer : Option Addr} {sl_is_integer : Array (Option Value)} {oc_is_integer kV_is_integer dc_is_integer pm_is_integer cd_is_integer ct_is_integer : Value}
    {f_check_integer : Addr} {od_check_integer an_check_integer : Option Addr} {sl_check_integer : Array (Option Value)} {oc_check_integer kV_check_integer dc_check_integer pm_check_integer cd_check_integer ct_check_integer : Value}
    {f_check_from : Addr} {od_check_from an_check_from : Option Addr} {sl_check_from : Array (Option Value)} {oc_check_from kV_check_from dc_check_from pm_check_from cd_check_from ct_check_from : Value}
    {f_check_whole : Addr} {od_check_whole an_check_whole : Option Addr} {sl_check_whole : Array (Option Value)} {oc_check_whole kV_check_whole dc_check_whole pm_check_whole cd_check_whole ct_check_whole : Value}
    {f_fewest_steps : Addr} {od_fewest_steps an_fewest_steps : Option Addr} {sl_fewest_steps : Array (Option Value)} {oc_fewest_steps kV_fewest_steps dc_fewest_steps pm_fewest_steps cd_fewest_steps ct_fewest_steps : Value}
    {f_quotient_up : Addr} {od_quotient_up an_quotient_up : Option Addr} {sl_quotient_up : Array (Option Value)} {oc_quotient_up kV_quotient_up dc_quotient_up pm_quotient_up cd_quotient_up ct_quotient_up : Value}
    {f_half_outline : Addr} {od_half_outline an_half_outline : Option Addr} {sl_half_outline : Array (Option Value)} {oc_half_outline kV_half_outline dc_half_outline pm_half_outline cd_half_outline ct_half_outline : Value}
    {f_best_sides : Addr} {od_best_sides an_best_sides : Option Addr} {sl_best_sides : Array (Option Value)} {oc_best_sides kV_best_sides dc_best_sides pm_best_sides cd_best_sides ct_best_sides : Value}
    {f_spare_steps : Addr} {od_spare_steps an_spare_steps : Option Addr} {sl_spare_steps : Array (Option Value)} {oc_spare_steps kV_spare_steps dc_spare_steps pm_spare_steps cd_spare_steps ct_spare_steps : Value}
    {f_areas_of_walks : Addr} {od_areas_of_walks an_areas_of_walks : Option Addr} {sl_areas_of_walks : Array (Option Value)} {oc_areas_of_walks kV_areas_of_walks dc_areas_of_walks pm_areas_of_walks cd_areas_of_walks ct_areas_of_walks : Value}
    {f_walks_by_halves : Addr} {od_walks_by_halves an_walks_by_halves : Option Addr} {sl_walks_by_halves : Array (Option Value)} {oc_walks_by_halves kV_walks_by_halves dc_walks_by_halves pm_walks_by_halves cd_walks_by_halves ct_walks_by_halves : Value}
    {f_step_further : Addr} {od_step_further an_step_further : Option Addr} {sl_step_further : Array (Option Value)} {oc_step_further kV_step_further dc_step_further pm_step_further cd_step_further ct_step_further : Value}
    {f_joined_walks : Addr} {od_joined_walks an_joined_walks : Option Addr} {sl_joined_walks : Array (Option Value)} {oc_joined_walks kV_joined_walks dc_joined_walks pm_joined_walks cd_joined_walks ct_joined_walks : Value}
    {f_Place_init : Addr} {od_Place_init an_Place_init : Option Addr} {sl_Place_init : Array (Option Value)} {oc_Place_init kV_Place_init dc_Place_init pm_Place_init cd_Place_init ct_Place_init : Value}
    {f_Place_invert : Addr} {od_Place_invert an_Place_invert : Option Addr} {sl_Place_invert : Array (Option Value)} {oc_Place_invert kV_Place_invert dc_Place_invert pm_Place_invert cd_Place_invert ct_Place_invert : Value}
    {f_Place_lifted : Addr} {od_Place_lifted an_Place_lifted : Option Addr} {sl_Place_lifted : Array (Option Value)} {oc_Place_lifted kV_Place_lifted dc_Place_lifted pm_Place_lifted cd_Place_lifted ct_Place_lifted : Value}
    {f_check_place : Addr} {od_check_place an_check_place : Option Addr} {sl_check_place : Array (Option Value)} {oc_check_place kV_check_place dc_check_place pm_check_place cd_check_place ct_check_place : Value}
    {f_sphere_places : Addr} {od_sphere_places an_sphere_places : Option Addr} {sl_sphere_places : Array (Option Value)} {oc_sphere_places kV_sphere_places dc_sphere_places pm_sphere_places cd_sphere_places ct_sphere_places : Value}
    {f_walks_to : Addr} {od_walks_to an_walks_to : Option Addr} {sl_walks_to : Array (Option Value)} {oc_walks_to kV_walks_to dc_walks_to pm_walks_to cd_walks_to ct_walks_to : Value}
    {f_least_walks : Addr} {od_least_walks an_least_walks : Option Addr} {sl_least_walks : Array (Option Value)} {oc_least_walks kV_least_walks dc_least_walks pm_least_walks cd_least_walks ct_least_walks : Value}
    {f_check_near : Addr} {od_check_near an_check_near : Option Addr} {sl_check_near : Array (Option Value)} {oc_check_near kV_check_near dc_check_near pm_check_near cd_check_near ct_check_near : Value}
    {f_new_areas : Addr} {od_new_areas an_new_areas : Option Addr} {sl_new_areas : Array (Option Value)} {oc_new_areas kV_new_areas dc_new_areas pm_new_areas cd_new_areas ct_new_areas : Value}
    {f_steps : Addr} {od_steps an_steps : Option Addr} {sl_steps : Array (Option Value)} {oc_steps kV_steps dc_steps pm_steps cd_steps ct_steps : Value}
    {f_l_pen : Addr} {od_l_pen an_l_pen : Option Addr} {sl_l_pen : Array (Option Value)} {oc_l_pen kV_l_pen dc_l_pen pm_l_pen cd_l_pen ct_l_pen : Value}
    {f_l_draw : Addr} {od_l_draw an_l_draw : Option Addr} {sl_l_draw : Array (Option Value)} {oc_l_draw kV_l_draw dc_l_draw pm_l_draw cd_l_draw ct_l_draw : Value}
    {f_l_pick : Addr} {od_l_pick an_l_pick : Option Addr} {sl_l_pick : Array (Option Value)} {oc_l_pick kV_l_pick dc_l_pick pm_l_pick cd_l_pick ct_l_pick : Value}
    {f_l_great : Addr} {od_l_great an_l_great : Option Addr} {sl_l_great : Array (Option Value)} {oc_l_great kV_l_great dc_l_great pm_l_great cd_l_great ct_l_great : Value}
    {f_l_gone : Addr} {od_l_gone an_l_gone : Option Addr} {sl_l_gone : Array (Option Value)} {oc_l_gone kV_l_gone dc_l_gone pm_l_gone cd_l_gone ct_l_gone : Value}
    {f_l_spot : Addr} {od_l_spot an_l_spot : Option Addr} {sl_l_spot : Array (Option Value)} {oc_l_spot kV_l_spot dc_l_spot pm_l_spot cd_l_spot ct_l_spot : Value}
    {f_l_place : Addr} {od_l_place an_l_place : Option Addr} {sl_l_place : Array (Option Value)} {oc_l_place kV_l_place dc_l_place pm_l_place cd_l_place ct_l_place : Value}
    {f_l_times : Addr} {od_l_times an_l_times : Option Addr} {sl_l_times : Array (Option Value)} {oc_l_times kV_l_times dc_l_times pm_l_times cd_l_times ct_l_times : Value}
    {f_l_undone : Addr} {od_l_undone an_l_undone : Option Addr} {sl_l_undone : Array (Option Value)} {oc_l_undone kV_l_undone dc_l_undone pm_l_undone cd_l_undone ct_l_undone : Value}
    {f_l_counted : Addr} {od_l_counted an_l_counted : Option Addr} {sl_l_counted : Array (Option Value)} {oc_l_counted kV_l_counted dc_l_counted pm_l_counted cd_l_counted ct_l_counted : Value}
    {f_l_refused : Addr} {od_l_refused an_l_refused : Option Addr} {sl_l_refused : Array (Option Value)} {oc_l_refused kV_l_refused dc_l_refused pm_l_refused cd_l_refused ct_l_refused : Value}
    {f_l_far_right : Addr} {od_l_far_right an_l_far_right : Option Addr} {sl_l_far_right : Array (Option Value)} {oc_l_far_right kV_l_far_right dc_l_far_right pm_l_far_right cd_l_far_right ct_l_far_right : Value}
    {cc_l_wrong_right pt_l_wrong_right : Addr}
    {f_l_wrong_right : Addr} {od_l_wrong_right an_l_wrong_right : Option Addr} {sl_l_wrong_right : Array (Option Value)} {oc_l_wrong_right kV_l_wrong_right dc_l_wrong_right pm_l_wrong_right ct_l_wrong_right : Value}
    {f_law : Addr} {od_law an_law : Option Addr} {sl_law : Array (Option Value)} {oc_law kV_law dc_law pm_law cd_law ct_law : Value}
    {C_WalkError : Addr}
    {C_BadNumber : Addr}
    {C_BadPlace : Addr}
    {C_TooFar : Addr}
    {C_Place : Addr}
    {nm_BadNumber qn_BadNumber : Str} {NN_BadNumber : Addr} {bs_BadNumber sb_BadNumber : List Value} {sn_BadNumber : List Str} {ab_BadNumber : Bool} {co_BadNumber : Option Bool} {dd_BadNumber : Option Addr} {m0_BadNumber m1_BadNumber m2_BadNumber m3_BadNumber m5_BadNumber : Option Value}
    {nm_BadPlace qn_BadPlace : Str} {NN_BadPlace : Addr} {bs_BadPlace sb_BadPlace : List Value} {sn_BadPlace : List Str} {ab_BadPlace : Bool} {co_BadPlace : Option Bool} {dd_BadPlace : Option Addr} {m0_BadPlace m1_BadPlace m2_BadPlace m3_BadPlace m5_BadPlace : Option Value}
    {nm_TooFar qn_TooFar : Str} {NN_TooFar : Addr} {bs_TooFar sb_TooFar : List Value} {sn_TooFar : List Str} {ab_TooFar : Bool} {co_TooFar : Option Bool} {dd_TooFar : Option Addr} {m0_TooFar m1_TooFar m2_TooFar m3_TooFar m5_TooFar : Option Value}
    {tk_MOST_STEPS : Tok}
    (X : K.In h) (G : h.Ns mainGlobals mg) (hfa : mg "law" = some (.ref fa))
    (g_is_integer : PySem.W.nsIn K mainGlobals "is_integer" = some (some (.ref f_is_integer)))
    (l_is_integer : K.lookup f_is_integer = some ⟨oc_is_integer, od_is_integer, .func (PySem.W.fnOf "is_integer" "is_integer" (defArgs s_is_integer) (defBody s_is_integer) (defScope s_is_integer) .none kV_is_integer dc_is_integer pm_is_integer an_is_integer cd_is_integer ct_is_integer), sl_is_integer⟩)
    (c_is_integer : PySem.W.codeIn K cd_is_integer "is_integer" = true)
    (k_is_integer : PySem.W.keepIn K (.ref f_is_integer) = true)
    (g_check_integer : PySem.W.nsIn K mainGlobals "check_integer" = some (some (.ref f_check_integer)))
    (l_check_integer : K.lookup f_check_integer = some ⟨oc_check_integer, od_check_integer, .func (PySem.W.fnOf "check_integer" "check_integer" (defArgs s_check_integer) (defBody s_check_integer) (defScope s_check_integer) .none kV_check_integer dc_check_integer pm_check_integer an_check_integer cd_check_integer ct_check_integer), sl_check_integer⟩)
    (c_check_integer : PySem.W.codeIn K cd_check_integer "check_integer" = true)
    (k_check_integer : PySem.W.keepIn K (.ref f_check_integer) = true)
    (g_check_from : PySem.W.nsIn K mainGlobals "check_from" = some (some (.ref f_check_from)))
    (l_check_from : K.lookup f_check_from = some ⟨oc_check_from, od_check_from, .func (PySem.W.fnOf "check_from" "check_from" (defArgs s_check_from) (defBody s_check_from) (defScope s_check_from) .none kV_check_from dc_check_from pm_check_from an_check_from cd_check_from ct_check_from), sl_check_from⟩)
    (c_check_from : PySem.W.codeIn K cd_check_from "check_from" = true)
    (k_check_from : PySem.W.keepIn K (.ref f_check_from) = true)
    (g_check_whole : PySem.W.nsIn K mainGlobals "check_whole" = some (some (.ref f_check_whole)))
    (l_check_whole : K.lookup f_check_whole = some ⟨oc_check_whole, od_check_whole, .func (PySem.W.fnOf "check_whole" "check_whole" (defArgs s_check_whole) (defBody s_check_whole) (defScope s_check_whole) .none kV_check_whole dc_check_whole pm_check_whole an_check_whole cd_check_whole ct_check_whole), sl_check_whole⟩)
    (c_check_whole : PySem.W.codeIn K cd_check_whole "check_whole" = true)
    (k_check_whole : PySem.W.keepIn K (.ref f_check_whole) = true)
    (g_fewest_steps : PySem.W.nsIn K mainGlobals "fewest_steps" = some (some (.ref f_fewest_steps)))
    (l_fewest_steps : K.lookup f_fewest_steps = some ⟨oc_fewest_steps, od_fewest_steps, .func (PySem.W.fnOf "fewest_steps" "fewest_steps" (defArgs s_fewest_steps) (defBody s_fewest_steps) (defScope s_fewest_steps) .none kV_fewest_steps dc_fewest_steps pm_fewest_steps an_fewest_steps cd_fewest_steps ct_fewest_steps), sl_fewest_steps⟩)
    (c_fewest_steps : PySem.W.codeIn K cd_fewest_steps "fewest_steps" = true)
    (k_fewest_steps : PySem.W.keepIn K (.ref f_fewest_steps) = true)
    (g_quotient_up : PySem.W.nsIn K mainGlobals "quotient_up" = some (some (.ref f_quotient_up)))
    (l_quotient_up : K.lookup f_quotient_up = some ⟨oc_quotient_up, od_quotient_up, .func (PySem.W.fnOf "quotient_up" "quotient_up" (defArgs s_quotient_up) (defBody s_quotient_up) (defScope s_quotient_up) .none kV_quotient_up dc_quotient_up pm_quotient_up an_quotient_up cd_quotient_up ct_quotient_up), sl_quotient_up⟩)
    (c_quotient_up : PySem.W.codeIn K cd_quotient_up "quotient_up" = true)
    (k_quotient_up : PySem.W.keepIn K (.ref f_quotient_up) = true)
    (g_half_outline : PySem.W.nsIn K mainGlobals "half_outline" = some (some (.ref f_half_outline)))
    (l_half_outline : K.lookup f_half_outline = some ⟨oc_half_outline, od_half_outline, .func (PySem.W.fnOf "half_outline" "half_outline" (defArgs s_half_outline) (defBody s_half_outline) (defScope s_half_outline) .none kV_half_outline dc_half_outline pm_half_outline an_half_outline cd_half_outline ct_half_outline), sl_half_outline⟩)
    (c_half_outline : PySem.W.codeIn K cd_half_outline "half_outline" = true)
    (k_half_outline : PySem.W.keepIn K (.ref f_half_outline) = true)
    (g_best_sides : PySem.W.nsIn K mainGlobals "best_sides" = some (some (.ref f_best_sides)))
    (l_best_sides : K.lookup f_best_sides = some ⟨oc_best_sides, od_best_sides, .func (PySem.W.fnOf "best_sides" "best_sides" (defArgs s_best_sides) (defBody s_best_sides) (defScope s_best_sides) .none kV_best_sides dc_best_sides pm_best_sides an_best_sides cd_best_sides ct_best_sides), sl_best_sides⟩)
    (c_best_sides : PySem.W.codeIn K cd_best_sides "best_sides" = true)
    (k_best_sides : PySem.W.keepIn K (.ref f_best_sides) = true)
    (g_spare_steps : PySem.W.nsIn K mainGlobals "spare_steps" = some (some (.ref f_spare_steps)))
    (l_spare_steps : K.lookup f_spare_steps = some ⟨oc_spare_steps, od_spare_steps, .func (PySem.W.fnOf "spare_steps" "spare_steps" (defArgs s_spare_steps) (defBody s_spare_steps) (defScope s_spare_steps) .none kV_spare_steps dc_spare_steps pm_spare_steps an_spare_steps cd_spare_steps ct_spare_steps), sl_spare_steps⟩)
    (c_spare_steps : PySem.W.codeIn K cd_spare_steps "spare_steps" = true)
    (k_spare_steps : PySem.W.keepIn K (.ref f_spare_steps) = true)
    (g_areas_of_walks : PySem.W.nsIn K mainGlobals "areas_of_walks" = some (some (.ref f_areas_of_walks)))
    (l_areas_of_walks : K.lookup f_areas_of_walks = some ⟨oc_areas_of_walks, od_areas_of_walks, .func (PySem.W.fnOf "areas_of_walks" "areas_of_walks" (defArgs s_areas_of_walks) (defBody s_areas_of_walks) (defScope s_areas_of_walks) .none kV_areas_of_walks dc_areas_of_walks pm_areas_of_walks an_areas_of_walks cd_areas_of_walks ct_areas_of_walks), sl_areas_of_walks⟩)
    (c_areas_of_walks : PySem.W.codeIn K cd_areas_of_walks "areas_of_walks" = true)
    (k_areas_of_walks : PySem.W.keepIn K (.ref f_areas_of_walks) = true)
    (g_walks_by_halves : PySem.W.nsIn K mainGlobals "walks_by_halves" = some (some (.ref f_walks_by_halves)))
    (l_walks_by_halves : K.lookup f_walks_by_halves = some ⟨oc_walks_by_halves, od_walks_by_halves, .func (PySem.W.fnOf "walks_by_halves" "walks_by_halves" (defArgs s_walks_by_halves) (defBody s_walks_by_halves) (defScope s_walks_by_halves) .none kV_walks_by_halves dc_walks_by_halves pm_walks_by_halves an_walks_by_halves cd_walks_by_halves ct_walks_by_halves), sl_walks_by_halves⟩)
    (c_walks_by_halves : PySem.W.codeIn K cd_walks_by_halves "walks_by_halves" = true)
    (k_walks_by_halves : PySem.W.keepIn K (.ref f_walks_by_halves) = true)
    (g_step_further : PySem.W.nsIn K mainGlobals "step_further" = some (some (.ref f_step_further)))
    (l_step_further : K.lookup f_step_further = some ⟨oc_step_further, od_step_further, .func (PySem.W.fnOf "step_further" "step_further" (defArgs s_step_further) (defBody s_step_further) (defScope s_step_further) .none kV_step_further dc_step_further pm_step_further an_step_further cd_step_further ct_step_further), sl_step_further⟩)
    (c_step_further : PySem.W.codeIn K cd_step_further "step_further" = true)
    (k_step_further : PySem.W.keepIn K (.ref f_step_further) = true)
    (g_joined_walks : PySem.W.nsIn K mainGlobals "joined_walks" = some (some (.ref f_joined_walks)))
    (l_joined_walks : K.lookup f_joined_walks = some ⟨oc_joined_walks, od_joined_walks, .func (PySem.W.fnOf "joined_walks" "joined_walks" (defArgs s_joined_walks) (defBody s_joined_walks) (defScope s_joined_walks) .none kV_joined_walks dc_joined_walks pm_joined_walks an_joined_walks cd_joined_walks ct_joined_walks), sl_joined_walks⟩)
    (c_joined_walks : PySem.W.codeIn K cd_joined_walks "joined_walks" = true)
    (k_joined_walks : PySem.W.keepIn K (.ref f_joined_walks) = true)
    (g_check_place : PySem.W.nsIn K mainGlobals "check_place" = some (some (.ref f_check_place)))
    (l_check_place : K.lookup f_check_place = some ⟨oc_check_place, od_check_place, .func (PySem.W.fnOf "check_place" "check_place" (defArgs s_check_place) (defBody s_check_place) (defScope s_check_place) .none kV_check_place dc_check_place pm_check_place an_check_place cd_check_place ct_check_place), sl_check_place⟩)
    (c_check_place : PySem.W.codeIn K cd_check_place "check_place" = true)
    (k_check_place : PySem.W.keepIn K (.ref f_check_place) = true)
    (g_sphere_places : PySem.W.nsIn K mainGlobals "sphere_places" = some (some (.ref f_sphere_places)))
    (l_sphere_places : K.lookup f_sphere_places = some ⟨oc_sphere_places, od_sphere_places, .func (PySem.W.fnOf "sphere_places" "sphere_places" (defArgs s_sphere_places) (defBody s_sphere_places) (defScope s_sphere_places) .none kV_sphere_places dc_sphere_places pm_sphere_places an_sphere_places cd_sphere_places ct_sphere_places), sl_sphere_places⟩)
    (c_sphere_places : PySem.W.codeIn K cd_sphere_places "sphere_places" = true)
    (k_sphere_places : PySem.W.keepIn K (.ref f_sphere_places) = true)
    (g_walks_to : PySem.W.nsIn K mainGlobals "walks_to" = some (some (.ref f_walks_to)))
    (l_walks_to : K.lookup f_walks_to = some ⟨oc_walks_to, od_walks_to, .func (PySem.W.fnOf "walks_to" "walks_to" (defArgs s_walks_to) (defBody s_walks_to) (defScope s_walks_to) .none kV_walks_to dc_walks_to pm_walks_to an_walks_to cd_walks_to ct_walks_to), sl_walks_to⟩)
    (c_walks_to : PySem.W.codeIn K cd_walks_to "walks_to" = true)
    (k_walks_to : PySem.W.keepIn K (.ref f_walks_to) = true)
    (g_least_walks : PySem.W.nsIn K mainGlobals "least_walks" = some (some (.ref f_least_walks)))
    (l_least_walks : K.lookup f_least_walks = some ⟨oc_least_walks, od_least_walks, .func (PySem.W.fnOf "least_walks" "least_walks" (defArgs s_least_walks) (defBody s_least_walks) (defScope s_least_walks) .none kV_least_walks dc_least_walks pm_least_walks an_least_walks cd_least_walks ct_least_walks), sl_least_walks⟩)
    (c_least_walks : PySem.W.codeIn K cd_least_walks "least_walks" = true)
    (k_least_walks : PySem.W.keepIn K (.ref f_least_walks) = true)
    (g_check_near : PySem.W.nsIn K mainGlobals "check_near" = some (some (.ref f_check_near)))
    (l_check_near : K.lookup f_check_near = some ⟨oc_check_near, od_check_near, .func (PySem.W.fnOf "check_near" "check_near" (defArgs s_check_near) (defBody s_check_near) (defScope s_check_near) .none kV_check_near dc_check_near pm_check_near an_check_near cd_check_near ct_check_near), sl_check_near⟩)
    (c_check_near : PySem.W.codeIn K cd_check_near "check_near" = true)
    (k_check_near : PySem.W.keepIn K (.ref f_check_near) = true)
    (g_new_areas : PySem.W.nsIn K mainGlobals "new_areas" = some (some (.ref f_new_areas)))
    (l_new_areas : K.lookup f_new_areas = some ⟨oc_new_areas, od_new_areas, .func (PySem.W.fnOf "new_areas" "new_areas" (defArgs s_new_areas) (defBody s_new_areas) (defScope s_new_areas) .none kV_new_areas dc_new_areas pm_new_areas an_new_areas cd_new_areas ct_new_areas), sl_new_areas⟩)
    (c_new_areas : PySem.W.codeIn K cd_new_areas "new_areas" = true)
    (k_new_areas : PySem.W.keepIn K (.ref f_new_areas) = true)
    (g_steps : PySem.W.nsIn K mainGlobals "steps" = some (some (.ref f_steps)))
    (l_steps : K.lookup f_steps = some ⟨oc_steps, od_steps, .func (PySem.W.fnOf "steps" "steps" (defArgs s_steps) (defBody s_steps) (defScope s_steps) .none kV_steps dc_steps pm_steps an_steps cd_steps ct_steps), sl_steps⟩)
    (c_steps : PySem.W.codeIn K cd_steps "steps" = true)
    (k_steps : PySem.W.keepIn K (.ref f_steps) = true)
    (g_l_pen : PySem.W.nsIn K mainGlobals "_law_pen" = some (some (.ref f_l_pen)))
    (l_l_pen : K.lookup f_l_pen = some ⟨oc_l_pen, od_l_pen, .func (PySem.W.fnOf "_law_pen" "_law_pen" (defArgs s_l_pen) (defBody s_l_pen) (defScope s_l_pen) .none kV_l_pen dc_l_pen pm_l_pen an_l_pen cd_l_pen ct_l_pen), sl_l_pen⟩)
    (c_l_pen : PySem.W.codeIn K cd_l_pen "_law_pen" = true)
    (k_l_pen : PySem.W.keepIn K (.ref f_l_pen) = true)
    (g_l_draw : PySem.W.nsIn K mainGlobals "_law_draw" = some (some (.ref f_l_draw)))
    (l_l_draw : K.lookup f_l_draw = some ⟨oc_l_draw, od_l_draw, .func (PySem.W.fnOf "_law_draw" "_law_draw" (defArgs s_l_draw) (defBody s_l_draw) (defScope s_l_draw) .none kV_l_draw dc_l_draw pm_l_draw an_l_draw cd_l_draw ct_l_draw), sl_l_draw⟩)
    (c_l_draw : PySem.W.codeIn K cd_l_draw "_law_draw" = true)
    (k_l_draw : PySem.W.keepIn K (.ref f_l_draw) = true)
    (g_l_pick : PySem.W.nsIn K mainGlobals "_law_pick" = some (some (.ref f_l_pick)))
    (l_l_pick : K.lookup f_l_pick = some ⟨oc_l_pick, od_l_pick, .func (PySem.W.fnOf "_law_pick" "_law_pick" (defArgs s_l_pick) (defBody s_l_pick) (defScope s_l_pick) .none kV_l_pick dc_l_pick pm_l_pick an_l_pick cd_l_pick ct_l_pick), sl_l_pick⟩)
    (c_l_pick : PySem.W.codeIn K cd_l_pick "_law_pick" = true)
    (k_l_pick : PySem.W.keepIn K (.ref f_l_pick) = true)
    (g_l_great : PySem.W.nsIn K mainGlobals "_law_great" = some (some (.ref f_l_great)))
    (l_l_great : K.lookup f_l_great = some ⟨oc_l_great, od_l_great, .func (PySem.W.fnOf "_law_great" "_law_great" (defArgs s_l_great) (defBody s_l_great) (defScope s_l_great) .none kV_l_great dc_l_great pm_l_great an_l_great cd_l_great ct_l_great), sl_l_great⟩)
    (c_l_great : PySem.W.codeIn K cd_l_great "_law_great" = true)
    (k_l_great : PySem.W.keepIn K (.ref f_l_great) = true)
    (g_l_gone : PySem.W.nsIn K mainGlobals "_law_gone" = some (some (.ref f_l_gone)))
    (l_l_gone : K.lookup f_l_gone = some ⟨oc_l_gone, od_l_gone, .func (PySem.W.fnOf "_law_gone" "_law_gone" (defArgs s_l_gone) (defBody s_l_gone) (defScope s_l_gone) .none kV_l_gone dc_l_gone pm_l_gone an_l_gone cd_l_gone ct_l_gone), sl_l_gone⟩)
    (c_l_gone : PySem.W.codeIn K cd_l_gone "_law_gone" = true)
    (k_l_gone : PySem.W.keepIn K (.ref f_l_gone) = true)
    (g_l_spot : PySem.W.nsIn K mainGlobals "_law_spot" = some (some (.ref f_l_spot)))
    (l_l_spot : K.lookup f_l_spot = some ⟨oc_l_spot, od_l_spot, .func (PySem.W.fnOf "_law_spot" "_law_spot" (defArgs s_l_spot) (defBody s_l_spot) (defScope s_l_spot) .none kV_l_spot dc_l_spot pm_l_spot an_l_spot cd_l_spot ct_l_spot), sl_l_spot⟩)
    (c_l_spot : PySem.W.codeIn K cd_l_spot "_law_spot" = true)
    (k_l_spot : PySem.W.keepIn K (.ref f_l_spot) = true)
    (g_l_place : PySem.W.nsIn K mainGlobals "_law_place" = some (some (.ref f_l_place)))
    (l_l_place : K.lookup f_l_place = some ⟨oc_l_place, od_l_place, .func (PySem.W.fnOf "_law_place" "_law_place" (defArgs s_l_place) (defBody s_l_place) (defScope s_l_place) .none kV_l_place dc_l_place pm_l_place an_l_place cd_l_place ct_l_place), sl_l_place⟩)
    (c_l_place : PySem.W.codeIn K cd_l_place "_law_place" = true)
    (k_l_place : PySem.W.keepIn K (.ref f_l_place) = true)
    (g_l_times : PySem.W.nsIn K mainGlobals "_law_times" = some (some (.ref f_l_times)))
    (l_l_times : K.lookup f_l_times = some ⟨oc_l_times, od_l_times, .func (PySem.W.fnOf "_law_times" "_law_times" (defArgs s_l_times) (defBody s_l_times) (defScope s_l_times) .none kV_l_times dc_l_times pm_l_times an_l_times cd_l_times ct_l_times), sl_l_times⟩)
    (c_l_times : PySem.W.codeIn K cd_l_times "_law_times" = true)
    (k_l_times : PySem.W.keepIn K (.ref f_l_times) = true)
    (g_l_undone : PySem.W.nsIn K mainGlobals "_law_undone" = some (some (.ref f_l_undone)))
    (l_l_undone : K.lookup f_l_undone = some ⟨oc_l_undone, od_l_undone, .func (PySem.W.fnOf "_law_undone" "_law_undone" (defArgs s_l_undone) (defBody s_l_undone) (defScope s_l_undone) .none kV_l_undone dc_l_undone pm_l_undone an_l_undone cd_l_undone ct_l_undone), sl_l_undone⟩)
    (c_l_undone : PySem.W.codeIn K cd_l_undone "_law_undone" = true)
    (k_l_undone : PySem.W.keepIn K (.ref f_l_undone) = true)
    (g_l_counted : PySem.W.nsIn K mainGlobals "_law_counted" = some (some (.ref f_l_counted)))
    (l_l_counted : K.lookup f_l_counted = some ⟨oc_l_counted, od_l_counted, .func (PySem.W.fnOf "_law_counted" "_law_counted" (defArgs s_l_counted) (defBody s_l_counted) (defScope s_l_counted) .none kV_l_counted dc_l_counted pm_l_counted an_l_counted cd_l_counted ct_l_counted), sl_l_counted⟩)
    (c_l_counted : PySem.W.codeIn K cd_l_counted "_law_counted" = true)
    (k_l_counted : PySem.W.keepIn K (.ref f_l_counted) = true)
    (g_l_refused : PySem.W.nsIn K mainGlobals "_law_refused" = some (some (.ref f_l_refused)))
    (l_l_refused : K.lookup f_l_refused = some ⟨oc_l_refused, od_l_refused, .func (PySem.W.fnOf "_law_refused" "_law_refused" (defArgs s_l_refused) (defBody s_l_refused) (defScope s_l_refused) .none kV_l_refused dc_l_refused pm_l_refused an_l_refused cd_l_refused ct_l_refused), sl_l_refused⟩)
    (c_l_refused : PySem.W.codeIn K cd_l_refused "_law_refused" = true)
    (k_l_refused : PySem.W.keepIn K (.ref f_l_refused) = true)
    (g_l_far_right : PySem.W.nsIn K mainGlobals "_law_far_right" = some (some (.ref f_l_far_right)))
    (l_l_far_right : K.lookup f_l_far_right = some ⟨oc_l_far_right, od_l_far_right, .func (PySem.W.fnOf "_law_far_right" "_law_far_right" (defArgs s_l_far_right) (defBody s_l_far_right) (defScope s_l_far_right) .none kV_l_far_right dc_l_far_right pm_l_far_right an_l_far_right cd_l_far_right ct_l_far_right), sl_l_far_right⟩)
    (c_l_far_right : PySem.W.codeIn K cd_l_far_right "_law_far_right" = true)
    (k_l_far_right : PySem.W.keepIn K (.ref f_l_far_right) = true)
    (g_l_wrong_right : PySem.W.nsIn K mainGlobals "_law_wrong_right" = some (some (.ref f_l_wrong_right)))
    (l_l_wrong_right : K.lookup f_l_wrong_right = some ⟨oc_l_wrong_right, od_l_wrong_right, .func (PySem.W.fnOf "_law_wrong_right" "_law_wrong_right" (defArgs s_l_wrong_right) (defBody s_l_wrong_right) (defScope s_l_wrong_right) .none kV_l_wrong_right dc_l_wrong_right pm_l_wrong_right an_l_wrong_right (Value.ref cc_l_wrong_right) ct_l_wrong_right), sl_l_wrong_right⟩)
    (c_l_wrong_right : PySem.W.codeIn K (Value.ref cc_l_wrong_right) "_law_wrong_right" = true)
    (h_l_wrong_right : PySem.W.codeHdIn K cc_l_wrong_right pt_l_wrong_right = true)
    (n_l_wrong_right : K.lookup pt_l_wrong_right = none)
    (k_l_wrong_right : PySem.W.keepIn K (.ref f_l_wrong_right) = true)
    (g_law : PySem.W.nsIn K mainGlobals "law" = some (some (.ref f_law)))
    (l_law : K.lookup f_law = some ⟨oc_law, od_law, .func (PySem.W.fnOf "law" "law" (defArgs s_law) (defBody s_law) (defScope s_law) .none kV_law dc_law pm_law an_law cd_law ct_law), sl_law⟩)
    (c_law : PySem.W.codeIn K cd_law "law" = true)
    (k_law : PySem.W.keepIn K (.ref f_law) = true)
    (g_C_BadNumber : PySem.W.nsIn K mainGlobals "BadNumber" = some (some (.ref C_BadNumber)))
    (m_BadNumber_init : PySem.W.findIn K (.ref C_BadNumber) "__init__" = some (some (.ref f_BadNumber_init)))
    (i_BadNumber_init : PySem.W.isFn K (.ref f_BadNumber_init) = true)
    (l_BadNumber_init : K.lookup f_BadNumber_init = some ⟨oc_BadNumber_init, od_BadNumber_init, .func (PySem.W.fnOf "__init__" "BadNumber.__init__" (defArgs s_BadNumber_init) (defBody s_BadNumber_init) (defScope s_BadNumber_init) .none kV_BadNumber_init dc_BadNumber_init pm_BadNumber_init an_BadNumber_init cd_BadNumber_init ct_BadNumber_init), sl_BadNumber_init⟩)
    (c_BadNumber_init : PySem.W.codeIn K cd_BadNumber_init "BadNumber.__init__" = true)
    (k_BadNumber_init : PySem.W.keepIn K (.ref f_BadNumber_init) = true)
    (sa_BadNumber : PySem.W.findIn K (.ref C_BadNumber) "__setattr__" = some (some (.builtin "object.__setattr__")))
    (ex_BadNumber : PySem.W.subIn K (.ref C_BadNumber) (.type "BaseException") = some true)
    (ty_BadNumber : PySem.W.typeIn K (.ref C_BadNumber) = some (.type "type"))
    (kc_BadNumber : PySem.W.keepIn K (.ref C_BadNumber) = true)
    (ga_BadNumber : PySem.W.findIn K (.ref C_BadNumber) "__getattribute__" = some (some (.builtin "BaseException.__getattribute__")))
    (gg_BadNumber : PySem.W.findIn K (.ref C_BadNumber) "__getattr__" = some none)
    (hd_BadNumber : PySem.W.hasDictIn K C_BadNumber = true)
    (x_BadNumber : K.lookup C_BadNumber = some (excClassObj nm_BadNumber qn_BadNumber C_BadNumber NN_BadNumber bs_BadNumber [.ref C_WalkError, .type "ValueError", .type "Exception", .type "BaseException", .type "object"] true sn_BadNumber sb_BadNumber ab_BadNumber co_BadNumber dd_BadNumber m0_BadNumber m1_BadNumber m2_BadNumber m3_BadNumber m5_BadNumber "ValueError.__new__"))
    (na_BadNumber_value : PySem.W.findIn K (.ref C_BadNumber) "value" = some none)
    (g_C_BadPlace : PySem.W.nsIn K mainGlobals "BadPlace" = some (some (.ref C_BadPlace)))
    (m_BadPlace_init : PySem.W.findIn K (.ref C_BadPlace) "__init__" = some (some (.ref f_BadPlace_init)))
    (i_BadPlace_init : PySem.W.isFn K (.ref f_BadPlace_init) = true)
    (l_BadPlace_init : K.lookup f_BadPlace_init = some ⟨oc_BadPlace_init, od_BadPlace_init, .func (PySem.W.fnOf "__init__" "BadPlace.__init__" (defArgs s_BadPlace_init) (defBody s_BadPlace_init) (defScope s_BadPlace_init) .none kV_BadPlace_init dc_BadPlace_init pm_BadPlace_init an_BadPlace_init cd_BadPlace_init ct_BadPlace_init), sl_BadPlace_init⟩)
    (c_BadPlace_init : PySem.W.codeIn K cd_BadPlace_init "BadPlace.__init__" = true)
    (k_BadPlace_init : PySem.W.keepIn K (.ref f_BadPlace_init) = true)
    (sa_BadPlace : PySem.W.findIn K (.ref C_BadPlace) "__setattr__" = some (some (.builtin "object.__setattr__")))
    (ex_BadPlace : PySem.W.subIn K (.ref C_BadPlace) (.type "BaseException") = some true)
    (ty_BadPlace : PySem.W.typeIn K (.ref C_BadPlace) = some (.type "type"))
    (kc_BadPlace : PySem.W.keepIn K (.ref C_BadPlace) = true)
    (ga_BadPlace : PySem.W.findIn K (.ref C_BadPlace) "__getattribute__" = some (some (.builtin "BaseException.__getattribute__")))
    (gg_BadPlace : PySem.W.findIn K (.ref C_BadPlace) "__getattr__" = some none)
    (hd_BadPlace : PySem.W.hasDictIn K C_BadPlace = true)
    (x_BadPlace : K.lookup C_BadPlace = some (excClassObj nm_BadPlace qn_BadPlace C_BadPlace NN_BadPlace bs_BadPlace [.ref C_WalkError, .type "ValueError", .type "Exception", .type "BaseException", .type "object"] true sn_BadPlace sb_BadPlace ab_BadPlace co_BadPlace dd_BadPlace m0_BadPlace m1_BadPlace m2_BadPlace m3_BadPlace m5_BadPlace "ValueError.__new__"))
    (na_BadPlace_value : PySem.W.findIn K (.ref C_BadPlace) "value" = some none)
    (g_C_TooFar : PySem.W.nsIn K mainGlobals "TooFar" = some (some (.ref C_TooFar)))
    (m_TooFar_init : PySem.W.findIn K (.ref C_TooFar) "__init__" = some (some (.ref f_TooFar_init)))
    (i_TooFar_init : PySem.W.isFn K (.ref f_TooFar_init) = true)
    (l_TooFar_init : K.lookup f_TooFar_init = some ⟨oc_TooFar_init, od_TooFar_init, .func (PySem.W.fnOf "__init__" "TooFar.__init__" (defArgs s_TooFar_init) (defBody s_TooFar_init) (defScope s_TooFar_init) .none kV_TooFar_init dc_TooFar_init pm_TooFar_init an_TooFar_init cd_TooFar_init ct_TooFar_init), sl_TooFar_init⟩)
    (c_TooFar_init : PySem.W.codeIn K cd_TooFar_init "TooFar.__init__" = true)
    (k_TooFar_init : PySem.W.keepIn K (.ref f_TooFar_init) = true)
    (sa_TooFar : PySem.W.findIn K (.ref C_TooFar) "__setattr__" = some (some (.builtin "object.__setattr__")))
    (ex_TooFar : PySem.W.subIn K (.ref C_TooFar) (.type "BaseException") = some true)
    (ty_TooFar : PySem.W.typeIn K (.ref C_TooFar) = some (.type "type"))
    (kc_TooFar : PySem.W.keepIn K (.ref C_TooFar) = true)
    (ga_TooFar : PySem.W.findIn K (.ref C_TooFar) "__getattribute__" = some (some (.builtin "BaseException.__getattribute__")))
    (gg_TooFar : PySem.W.findIn K (.ref C_TooFar) "__getattr__" = some none)
    (hd_TooFar : PySem.W.hasDictIn K C_TooFar = true)
    (x_TooFar : K.lookup C_TooFar = some (excClassObj nm_TooFar qn_TooFar C_TooFar NN_TooFar bs_TooFar [.ref C_WalkError, .type "ValueError", .type "Exception", .type "BaseException", .type "object"] true sn_TooFar sb_TooFar ab_TooFar co_TooFar dd_TooFar m0_TooFar m1_TooFar m2_TooFar m3_TooFar m5_TooFar "ValueError.__new__"))
    (na_TooFar_number : PySem.W.findIn K (.ref C_TooFar) "number" = some none)
    (g_C_Place : PySem.W.nsIn K mainGlobals "Place" = some (some (.ref C_Place)))
    (pg_Place : PySem.W.plainGet K C_Place Str.empty = true)
    (hd_Place : PySem.W.hasDictIn K C_Place = true)
    (po_Place : PySem.W.plainOver K C_Place = true)
    (sa_Place : PySem.W.findIn K (.ref C_Place) "__setattr__" = some (some (.builtin "object.__setattr__")))
    (ca_Place : PySem.W.findIn K (.ref C_Place) "__class__" = some (some (.builtin "object.__class__")))
    (cm_Place : PySem.W.mroIn K C_Place (.type "object") = some true)
    (na_Place_x : PySem.W.findIn K (.ref C_Place) "x" = some none)
    (na_Place_y : PySem.W.findIn K (.ref C_Place) "y" = some none)
    (na_Place_area : PySem.W.findIn K (.ref C_Place) "area" = some none)
    (m_Place_init : PySem.W.findIn K (.ref C_Place) "__init__" = some (some (.ref f_Place_init)))
    (i_Place_init : PySem.W.isFn K (.ref f_Place_init) = true)
    (l_Place_init : K.lookup f_Place_init = some ⟨oc_Place_init, od_Place_init, .func (PySem.W.fnOf "__init__" "Place.__init__" (defArgs s_Place_init) (defBody s_Place_init) (defScope s_Place_init) .none kV_Place_init dc_Place_init pm_Place_init an_Place_init cd_Place_init ct_Place_init), sl_Place_init⟩)
    (c_Place_init : PySem.W.codeIn K cd_Place_init "Place.__init__" = true)
    (k_Place_init : PySem.W.keepIn K (.ref f_Place_init) = true)
    (mk_Place : PySem.W.makesIn K C_Place = true)
    (kc_Place : PySem.W.keepIn K (.ref C_Place) = true)
    (m_Place_invert : PySem.W.findIn K (.ref C_Place) "__invert__" = some (some (.ref f_Place_invert)))
    (i_Place_invert : PySem.W.isFn K (.ref f_Place_invert) = true)
    (l_Place_invert : K.lookup f_Place_invert = some ⟨oc_Place_invert, od_Place_invert, .func (PySem.W.fnOf "__invert__" "Place.__invert__" (defArgs s_Place_invert) (defBody s_Place_invert) (defScope s_Place_invert) .none kV_Place_invert dc_Place_invert pm_Place_invert an_Place_invert cd_Place_invert ct_Place_invert), sl_Place_invert⟩)
    (c_Place_invert : PySem.W.codeIn K cd_Place_invert "Place.__invert__" = true)
    (k_Place_invert : PySem.W.keepIn K (.ref f_Place_invert) = true)
    (m_Place_lifted : PySem.W.findIn K (.ref C_Place) "lifted" = some (some (.ref f_Place_lifted)))
    (i_Place_lifted : PySem.W.isFn K (.ref f_Place_lifted) = true)
    (l_Place_lifted : K.lookup f_Place_lifted = some ⟨oc_Place_lifted, od_Place_lifted, .func (PySem.W.fnOf "lifted" "Place.lifted" (defArgs s_Place_lifted) (defBody s_Place_lifted) (defScope s_Place_lifted) .none kV_Place_lifted dc_Place_lifted pm_Place_lifted an_Place_lifted cd_Place_lifted ct_Place_lifted), sl_Place_lifted⟩)
    (c_Place_lifted : PySem.W.codeIn K cd_Place_lifted "Place.lifted" = true)
    (k_Place_lifted : PySem.W.keepIn K (.ref f_Place_lifted) = true)
    (cn : PySem.W.specialIn K (.builtin "object.__class__") "__get__" = some (some (.builtin "getset_descriptor.__get__")))
    (ct : PySem.W.takesIn K (.builtin "object.__class__") = some true)
    (io_Place_int : PySem.W.kitOne K (.ref C_Place) (.type "int") = some false)
    (io_Place_bool : PySem.W.kitOne K (.ref C_Place) (.type "bool") = some false)
    (is_NoneType_Place : PySem.W.kitOne K (.type "NoneType") (.ref C_Place) = some false)
    (is_bool_Place : PySem.W.kitOne K (.type "bool") (.ref C_Place) = some false)
    (is_int_Place : PySem.W.kitOne K (.type "int") (.ref C_Place) = some false)
    (is_str_Place : PySem.W.kitOne K (.type "str") (.ref C_Place) = some false)
    (is_list_Place : PySem.W.kitOne K (.type "list") (.ref C_Place) = some false)
    (is_tuple_Place : PySem.W.kitOne K (.type "tuple") (.ref C_Place) = some false)
    (is_dict_Place : PySem.W.kitOne K (.type "dict") (.ref C_Place) = some false)
    (em_BadNumber_BadNumber : PySem.W.exmOne K (.ref C_BadNumber) (.ref C_BadNumber) = some true)
    (em_TooFar_BadNumber : PySem.W.exmOne K (.ref C_TooFar) (.ref C_BadNumber) = some false)
    (em_BadNumber_BadPlace : PySem.W.exmOne K (.ref C_BadNumber) (.ref C_BadPlace) = some false)
    (em_BadPlace_BadPlace : PySem.W.exmOne K (.ref C_BadPlace) (.ref C_BadPlace) = some true)
    (em_TooFar_BadPlace : PySem.W.exmOne K (.ref C_TooFar) (.ref C_BadPlace) = some false)
    (em_TooFar_TooFar : PySem.W.exmOne K (.ref C_TooFar) (.ref C_TooFar) = some true)
    (n_abs : PySem.W.nsIn K mainGlobals "abs" = some none)
    (n_bool : PySem.W.nsIn K mainGlobals "bool" = some none)
    (n_int : PySem.W.nsIn K mainGlobals "int" = some none)
    (n_isinstance : PySem.W.nsIn K mainGlobals "isinstance" = some none)
    (n_len : PySem.W.nsIn K mainGlobals "len" = some none)
    (n_list : PySem.W.nsIn K mainGlobals "list" = some none)
    (n_max : PySem.W.nsIn K mainGlobals "max" = some none)
    (n_min : PySem.W.nsIn K mainGlobals "min" = some none)
    (n_range : PySem.W.nsIn K mainGlobals "range" = some none)
    (gc_MOST_STEPS : PySem.W.nsIn K mainGlobals "MOST_STEPS" = some (some (.int 20 tk_MOST_STEPS)))
    (mi_isqrt : PySem.W.nsIn K mainGlobals "isqrt" = some (some (.builtin "math.isqrt"))) {goal : Prop} (kk : ∀ T : Tx K mg, T.a_law = fa → T.pt_l_wrong_right = pt_l_wrong_right → goal) : goal := by
  refine kk { a_is_integer := (f_is_integer), d_is_integer := (_), F_is_integer := (fun_mk (st := s_is_integer) l_is_integer c_is_integer k_is_integer), b_is_integer := ((fun_mk (st := s_is_integer) l_is_integer c_is_integer k_is_integer).binds (ps := P_is_integer) fun _ _ _ _ _ _ us hl => match us, hl with | [_], _ => rfl), g_is_integer := (PySem.W.mg_of X G g_is_integer), a_check_integer := (f_check_integer), d_check_integer := (_), F_check_integer := (fun_mk (st := s_check_integer) l_check_integer c_check_integer k_check_integer), b_check_integer := ((fun_mk (st := s_check_integer) l_check_integer c_check_integer k_check_integer).binds (ps := P_check_integer) fun _ _ _ _ _ _ us hl => match us, hl with | [_], _ => rfl), g_check_integer := (PySem.W.mg_of X G g_check_integer), a_check_from := (f_check_from), d_check_from := (_), F_check_from := (fun_mk (st := s_check_from) l_check_from c_check_from k_check_from), b_check_from := ((fun_mk (st := s_check_from) l_check_from c_check_from k_check_from).binds (ps := P_check_from) fun _ _ _ _ _ _ us hl => match us, hl with | [_, _], _ => rfl), g_check_from := (PySem.W.mg_of X G g_check_from), a_check_whole := (f_check_whole), d_check_whole := (_), F_check_whole := (fun_mk (st := s_check_whole) l_check_whole c_check_whole k_check_whole), b_check_whole := ((fun_mk (st := s_check_whole) l_check_whole c_check_whole k_check_whole).binds (ps := P_check_whole) fun _ _ _ _ _ _ us hl => match us, hl with | [_], _ => rfl), g_check_whole := (PySem.W.mg_of X G g_check_whole), a_fewest_steps := (f_fewest_steps), d_fewest_steps := (_), F_fewest_steps := (fun_mk (st := s_fewest_steps) l_fewest_steps c_fewest_steps k_fewest_steps), b_fewest_steps := ((fun_mk (st := s_fewest_steps) l_fewest_steps c_fewest_steps k_fewest_steps).binds (ps := P_fewest_steps) fun _ _ _ _ _ _ us hl => match us, hl with | [_], _ => rfl), g_fewest_steps := (PySem.W.mg_of X G g_fewest_steps), a_quotient_up := (f_quotient_up), d_quotient_up := (_), F_quotient_up := (fun_mk (st := s_quotient_up) l_quotient_up c_quotient_up k_quotient_up), b_quotient_up := ((fun_mk (st := s_quotient_up) l_quotient_up c_quotient_up k_quotient_up).binds (ps := P_quotient_up) fun _ _ _ _ _ _ us hl => match us, hl with | [_, _], _ => rfl), g_quotient_up := (PySem.W.mg_of X G g_quotient_up), a_half_outline := (f_half_outline), d_half_outline := (_), F_half_outline := (fun_mk (st := s_half_outline) l_half_outline c_half_outline k_half_outline), b_half_outline := ((fun_mk (st := s_half_outline) l_half_outline c_half_outline k_half_outline).binds (ps := P_half_outline) fun _ _ _ _ _ _ us hl => match us, hl with | [_], _ => rfl), g_half_outline := (PySem.W.mg_of X G g_half_outline), a_best_sides := (f_best_sides), d_best_sides := (_), F_best_sides := (fun_mk (st := s_best_sides) l_best_sides c_best_sides k_best_sides), b_best_sides := ((fun_mk (st := s_best_sides) l_best_sides c_best_sides k_best_sides).binds (ps := P_best_sides) fun _ _ _ _ _ _ us hl => match us, hl with | [_, _, _], _ => rfl), g_best_sides := (PySem.W.mg_of X G g_best_sides), a_spare_steps := (f_spare_steps), d_spare_steps := (_), F_spare_steps := (fun_mk (st := s_spare_steps) l_spare_steps c_spare_steps k_spare_steps), b_spare_steps := ((fun_mk (st := s_spare_steps) l_spare_steps c_spare_steps k_spare_steps).binds (ps := P_spare_steps) fun _ _ _ _ _ _ us hl => match us, hl with | [_, _, _], _ => rfl), g_spare_steps := (PySem.W.mg_of X G g_spare_steps), a_areas_of_walks := (f_areas_of_walks), d_areas_of_walks := (_), F_areas_of_walks := (fun_mk (st := s_areas_of_walks) l_areas_of_walks c_areas_of_walks k_areas_of_walks), b_areas_of_walks := ((fun_mk (st := s_areas_of_walks) l_areas_of_walks c_areas_of_walks k_areas_of_walks).binds (ps := P_areas_of_walks) fun _ _ _ _ _ _ us hl => match us, hl with | [_, _, _], _ => rfl), g_areas_of_walks := (PySem.W.mg_of X G g_areas_of_walks), a_walks_by_halves := (f_walks_by_halves), d_walks_by_halves := (_), F_walks_by_halves := (fun_mk (st := s_walks_by_halves) l_walks_by_halves c_walks_by_halves k_walks_by_halves), b_walks_by_halves := ((fun_mk (st := s_walks_by_halves) l_walks_by_halves c_walks_by_halves k_walks_by_halves).binds (ps := P_walks_by_halves) fun _ _ _ _ _ _ us hl => match us, hl with | [_, _], _ => rfl), g_walks_by_halves := (PySem.W.mg_of X G g_walks_by_halves), a_step_further := (f_step_further), d_step_further := (_), F_step_further := (fun_mk (st := s_step_further) l_step_further c_step_further k_step_further), b_step_further := ((fun_mk (st := s_step_further) l_step_further c_step_further k_step_further).binds (ps := P_step_further) fun _ _ _ _ _ _ us hl => match us, hl with | [_, _], _ => rfl), g_step_further := (PySem.W.mg_of X G g_step_further), a_joined_walks := (f_joined_walks), d_joined_walks := (_), F_joined_walks := (fun_mk (st := s_joined_walks) l_joined_walks c_joined_walks k_joined_walks), b_joined_walks := ((fun_mk (st := s_joined_walks) l_joined_walks c_joined_walks k_joined_walks).binds (ps := P_joined_walks) fun _ _ _ _ _ _ us hl => match us, hl with | [_, _, _, _], _ => rfl), g_joined_walks := (PySem.W.mg_of X G g_joined_walks), a_check_place := (f_check_place), d_check_place := (_), F_check_place := (fun_mk (st := s_check_place) l_check_place c_check_place k_check_place), b_check_place := ((fun_mk (st := s_check_place) l_check_place c_check_place k_check_place).binds (ps := P_check_place) fun _ _ _ _ _ _ us hl => match us, hl with | [_], _ => rfl), g_check_place := (PySem.W.mg_of X G g_check_place), a_sphere_places := (f_sphere_places), d_sphere_places := (_), F_sphere_places := (fun_mk (st := s_sphere_places) l_sphere_places c_sphere_places k_sphere_places), b_sphere_places := ((fun_mk (st := s_sphere_places) l_sphere_places c_sphere_places k_sphere_places).binds (ps := P_sphere_places) fun _ _ _ _ _ _ us hl => match us, hl with | [_], _ => rfl), g_sphere_places := (PySem.W.mg_of X G g_sphere_places), a_walks_to := (f_walks_to), d_walks_to := (_), F_walks_to := (fun_mk (st := s_walks_to) l_walks_to c_walks_to k_walks_to), b_walks_to := ((fun_mk (st := s_walks_to) l_walks_to c_walks_to k_walks_to).binds (ps := P_walks_to) fun _ _ _ _ _ _ us hl => match us, hl with | [_, _], _ => rfl), g_walks_to := (PySem.W.mg_of X G g_walks_to), a_least_walks := (f_least_walks), d_least_walks := (_), F_least_walks := (fun_mk (st := s_least_walks) l_least_walks c_least_walks k_least_walks), b_least_walks := ((fun_mk (st := s_least_walks) l_least_walks c_least_walks k_least_walks).binds (ps := P_least_walks) fun _ _ _ _ _ _ us hl => match us, hl with | [_], _ => rfl), g_least_walks := (PySem.W.mg_of X G g_least_walks), a_check_near := (f_check_near), d_check_near := (_), F_check_near := (fun_mk (st := s_check_near) l_check_near c_check_near k_check_near), b_check_near := ((fun_mk (st := s_check_near) l_check_near c_check_near k_check_near).binds (ps := P_check_near) fun _ _ _ _ _ _ us hl => match us, hl with | [_], _ => rfl), g_check_near := (PySem.W.mg_of X G g_check_near), a_new_areas := (f_new_areas), d_new_areas := (_), F_new_areas := (fun_mk (st := s_new_areas) l_new_areas c_new_areas k_new_areas), b_new_areas := ((fun_mk (st := s_new_areas) l_new_areas c_new_areas k_new_areas).binds (ps := P_new_areas) fun _ _ _ _ _ _ us hl => match us, hl with | [_, _, _], _ => rfl), g_new_areas := (PySem.W.mg_of X G g_new_areas), a_steps := (f_steps), d_steps := (_), F_steps := (fun_mk (st := s_steps) l_steps c_steps k_steps), b_steps := ((fun_mk (st := s_steps) l_steps c_steps k_steps).binds (ps := P_steps) fun _ _ _ _ _ _ us hl => match us, hl with | [_], _ => rfl), g_steps := (PySem.W.mg_of X G g_steps), a_l_pen := (f_l_pen), d_l_pen := (_), F_l_pen := (fun_mk (st := s_l_pen) l_l_pen c_l_pen k_l_pen), b_l_pen := ((fun_mk (st := s_l_pen) l_l_pen c_l_pen k_l_pen).binds (ps := P_l_pen) fun _ _ _ _ _ _ us hl => match us, hl with | [_], _ => rfl), g_l_pen := (PySem.W.mg_of X G g_l_pen), a_l_draw := (f_l_draw), d_l_draw := (_), F_l_draw := (fun_mk (st := s_l_draw) l_l_draw c_l_draw k_l_draw), b_l_draw := ((fun_mk (st := s_l_draw) l_l_draw c_l_draw k_l_draw).binds (ps := P_l_draw) fun _ _ _ _ _ _ us hl => match us, hl with | [_, _], _ => rfl), g_l_draw := (PySem.W.mg_of X G g_l_draw), a_l_pick := (f_l_pick), d_l_pick := (_), F_l_pick := (fun_mk (st := s_l_pick) l_l_pick c_l_pick k_l_pick), b_l_pick := ((fun_mk (st := s_l_pick) l_l_pick c_l_pick k_l_pick).binds (ps := P_l_pick) fun _ _ _ _ _ _ us hl => match us, hl with | [_, _], _ => rfl), g_l_pick := (PySem.W.mg_of X G g_l_pick), a_l_great := (f_l_great), d_l_great := (_), F_l_great := (fun_mk (st := s_l_great) l_l_great c_l_great k_l_great), b_l_great := ((fun_mk (st := s_l_great) l_l_great c_l_great k_l_great).binds (ps := P_l_great) fun _ _ _ _ _ _ us hl => match us, hl with | [_, _], _ => rfl), g_l_great := (PySem.W.mg_of X G g_l_great), a_l_gone := (f_l_gone), d_l_gone := (_), F_l_gone := (fun_mk (st := s_l_gone) l_l_gone c_l_gone k_l_gone), b_l_gone := ((fun_mk (st := s_l_gone) l_l_gone c_l_gone k_l_gone).binds (ps := P_l_gone) fun _ _ _ _ _ _ us hl => match us, hl with | [_, _, _], _ => rfl), g_l_gone := (PySem.W.mg_of X G g_l_gone), a_l_spot := (f_l_spot), d_l_spot := (_), F_l_spot := (fun_mk (st := s_l_spot) l_l_spot c_l_spot k_l_spot), b_l_spot := ((fun_mk (st := s_l_spot) l_l_spot c_l_spot k_l_spot).binds (ps := P_l_spot) fun _ _ _ _ _ _ us hl => match us, hl with | [_], _ => rfl), g_l_spot := (PySem.W.mg_of X G g_l_spot), a_l_place := (f_l_place), d_l_place := (_), F_l_place := (fun_mk (st := s_l_place) l_l_place c_l_place k_l_place), b_l_place := ((fun_mk (st := s_l_place) l_l_place c_l_place k_l_place).binds (ps := P_l_place) fun _ _ _ _ _ _ us hl => match us, hl with | [_], _ => rfl), g_l_place := (PySem.W.mg_of X G g_l_place), a_l_times := (f_l_times), d_l_times := (_), F_l_times := (fun_mk (st := s_l_times) l_l_times c_l_times k_l_times), b_l_times := ((fun_mk (st := s_l_times) l_l_times c_l_times k_l_times).binds (ps := P_l_times) fun _ _ _ _ _ _ us hl => match us, hl with | [_, _], _ => rfl), g_l_times := (PySem.W.mg_of X G g_l_times), a_l_undone := (f_l_undone), d_l_undone := (_), F_l_undone := (fun_mk (st := s_l_undone) l_l_undone c_l_undone k_l_undone), b_l_undone := ((fun_mk (st := s_l_undone) l_l_undone c_l_undone k_l_undone).binds (ps := P_l_undone) fun _ _ _ _ _ _ us hl => match us, hl with | [_], _ => rfl), g_l_undone := (PySem.W.mg_of X G g_l_undone), a_l_counted := (f_l_counted), d_l_counted := (_), F_l_counted := (fun_mk (st := s_l_counted) l_l_counted c_l_counted k_l_counted), b_l_counted := ((fun_mk (st := s_l_counted) l_l_counted c_l_counted k_l_counted).binds (ps := P_l_counted) fun _ _ _ _ _ _ us hl => match us, hl with | [_], _ => rfl), g_l_counted := (PySem.W.mg_of X G g_l_counted), a_l_refused := (f_l_refused), d_l_refused := (_), F_l_refused := (fun_mk (st := s_l_refused) l_l_refused c_l_refused k_l_refused), b_l_refused := ((fun_mk (st := s_l_refused) l_l_refused c_l_refused k_l_refused).binds (ps := P_l_refused) fun _ _ _ _ _ _ us hl => match us, hl with | [_], _ => rfl), g_l_refused := (PySem.W.mg_of X G g_l_refused), a_l_far_right := (f_l_far_right), d_l_far_right := (_), F_l_far_right := (fun_mk (st := s_l_far_right) l_l_far_right c_l_far_right k_l_far_right), b_l_far_right := ((fun_mk (st := s_l_far_right) l_l_far_right c_l_far_right k_l_far_right).binds (ps := P_l_far_right) fun _ _ _ _ _ _ us hl => match us, hl with | [_], _ => rfl), g_l_far_right := (PySem.W.mg_of X G g_l_far_right), a_l_wrong_right := (f_l_wrong_right), d_l_wrong_right := (_), cc_l_wrong_right := (cc_l_wrong_right), pt_l_wrong_right := (pt_l_wrong_right), h_l_wrong_right := (h_l_wrong_right), n_l_wrong_right := (n_l_wrong_right), FC_l_wrong_right := (⟨⟨_, _, _, _, _, _, _, _, rfl, l_l_wrong_right, c_l_wrong_right⟩, k_l_wrong_right⟩), F_l_wrong_right := (fun_mk (st := s_l_wrong_right) l_l_wrong_right c_l_wrong_right k_l_wrong_right), b_l_wrong_right := ((fun_mk (st := s_l_wrong_right) l_l_wrong_right c_l_wrong_right k_l_wrong_right).binds (ps := P_l_wrong_right) fun _ _ _ _ _ _ us hl => match us, hl with | [_], _ => rfl), g_l_wrong_right := (PySem.W.mg_of X G g_l_wrong_right), a_law := (f_law), d_law := (_), F_law := (fun_mk (st := s_law) l_law c_law k_law), b_law := ((fun_mk (st := s_law) l_law c_law k_law).binds (ps := P_law) fun _ _ _ _ _ _ us hl => match us, hl with | [_], _ => rfl), g_law := (PySem.W.mg_of X G g_law), C_BadNumber := (C_BadNumber), g_C_BadNumber := (PySem.W.mg_of X G g_C_BadNumber), a_BadNumber_init := (f_BadNumber_init), d_BadNumber_init := (_), F_BadNumber_init := (fun_mk (st := s_BadNumber_init) l_BadNumber_init c_BadNumber_init k_BadNumber_init), b_BadNumber_init := ((fun_mk (st := s_BadNumber_init) l_BadNumber_init c_BadNumber_init k_BadNumber_init).binds (ps := P_BadNumber_init) fun _ _ _ _ _ _ us hl => match us, hl with | [_, _], _ => rfl), X_BadNumber := (⟨⟨nm_BadNumber, qn_BadNumber, NN_BadNumber, bs_BadNumber, _, sn_BadNumber, sb_BadNumber, ab_BadNumber, co_BadNumber, dd_BadNumber, m0_BadNumber, m1_BadNumber, m2_BadNumber, m3_BadNumber, m5_BadNumber, x_BadNumber, rfl⟩, sa_BadNumber, ex_BadNumber, ty_BadNumber, kc_BadNumber⟩), Y_BadNumber := (⟨ga_BadNumber, gg_BadNumber, ex_BadNumber, hd_BadNumber⟩), ei_BadNumber := (m_BadNumber_init), et_BadNumber := (beq_iff_eq.mp i_BadNumber_init), na_BadNumber_value := (na_BadNumber_value), C_BadPlace := (C_BadPlace), g_C_BadPlace := (PySem.W.mg_of X G g_C_BadPlace), a_BadPlace_init := (f_BadPlace_init), d_BadPlace_init := (_), F_BadPlace_init := (fun_mk (st := s_BadPlace_init) l_BadPlace_init c_BadPlace_init k_BadPlace_init), b_BadPlace_init := ((fun_mk (st := s_BadPlace_init) l_BadPlace_init c_BadPlace_init k_BadPlace_init).binds (ps := P_BadPlace_init) fun _ _ _ _ _ _ us hl => match us, hl with | [_, _], _ => rfl), X_BadPlace := (⟨⟨nm_BadPlace, qn_BadPlace, NN_BadPlace, bs_BadPlace, _, sn_BadPlace, sb_BadPlace, ab_BadPlace, co_BadPlace, dd_BadPlace, m0_BadPlace, m1_BadPlace, m2_BadPlace, m3_BadPlace, m5_BadPlace, x_BadPlace, rfl⟩, sa_BadPlace, ex_BadPlace, ty_BadPlace, kc_BadPlace⟩), Y_BadPlace := (⟨ga_BadPlace, gg_BadPlace, ex_BadPlace, hd_BadPlace⟩), ei_BadPlace := (m_BadPlace_init), et_BadPlace := (beq_iff_eq.mp i_BadPlace_init), na_BadPlace_value := (na_BadPlace_value), C_TooFar := (C_TooFar), g_C_TooFar := (PySem.W.mg_of X G g_C_TooFar), a_TooFar_init := (f_TooFar_init), d_TooFar_init := (_), F_TooFar_init := (fun_mk (st := s_TooFar_init) l_TooFar_init c_TooFar_init k_TooFar_init), b_TooFar_init := ((fun_mk (st := s_TooFar_init) l_TooFar_init c_TooFar_init k_TooFar_init).binds (ps := P_TooFar_init) fun _ _ _ _ _ _ us hl => match us, hl with | [_, _], _ => rfl), X_TooFar := (⟨⟨nm_TooFar, qn_TooFar, NN_TooFar, bs_TooFar, _, sn_TooFar, sb_TooFar, ab_TooFar, co_TooFar, dd_TooFar, m0_TooFar, m1_TooFar, m2_TooFar, m3_TooFar, m5_TooFar, x_TooFar, rfl⟩, sa_TooFar, ex_TooFar, ty_TooFar, kc_TooFar⟩), Y_TooFar := (⟨ga_TooFar, gg_TooFar, ex_TooFar, hd_TooFar⟩), ei_TooFar := (m_TooFar_init), et_TooFar := (beq_iff_eq.mp i_TooFar_init), na_TooFar_number := (na_TooFar_number), C_Place := (C_Place), g_C_Place := (PySem.W.mg_of X G g_C_Place), cl_Place := (⟨pg_Place, hd_Place, po_Place, sa_Place⟩), ca_Place := (ca_Place), cm_Place := (cm_Place), na_Place_x := (na_Place_x), na_Place_y := (na_Place_y), na_Place_area := (na_Place_area), a_Place_init := (f_Place_init), d_Place_init := (_), F_Place_init := (fun_mk (st := s_Place_init) l_Place_init c_Place_init k_Place_init), b_Place_init := ((fun_mk (st := s_Place_init) l_Place_init c_Place_init k_Place_init).binds (ps := P_Place_init) fun _ _ _ _ _ _ us hl => match us, hl with | [_, _, _, _], _ => rfl), M_Place := (⟨mk_Place, m_Place_init, i_Place_init, kc_Place⟩), a_Place_invert := (f_Place_invert), d_Place_invert := (_), F_Place_invert := (fun_mk (st := s_Place_invert) l_Place_invert c_Place_invert k_Place_invert), b_Place_invert := ((fun_mk (st := s_Place_invert) l_Place_invert c_Place_invert k_Place_invert).binds (ps := P_Place_invert) fun _ _ _ _ _ _ us hl => match us, hl with | [_], _ => rfl), m_Place_invert := (m_Place_invert), i_Place_invert := (i_Place_invert), a_Place_lifted := (f_Place_lifted), d_Place_lifted := (_), F_Place_lifted := (fun_mk (st := s_Place_lifted) l_Place_lifted c_Place_lifted k_Place_lifted), b_Place_lifted := ((fun_mk (st := s_Place_lifted) l_Place_lifted c_Place_lifted k_Place_lifted).binds (ps := P_Place_lifted) fun _ _ _ _ _ _ us hl => match us, hl with | [_, _], _ => rfl), M_Place_lifted := (⟨m_Place_lifted, i_Place_lifted, k_Place_lifted⟩), cn := (cn), ct := (ct), io_Place_int := (io_Place_int), io_Place_bool := (io_Place_bool), is_NoneType_Place := (is_NoneType_Place), is_bool_Place := (is_bool_Place), is_int_Place := (is_int_Place), is_str_Place := (is_str_Place), is_list_Place := (is_list_Place), is_tuple_Place := (is_tuple_Place), is_dict_Place := (is_dict_Place), em_BadNumber_BadNumber := (em_BadNumber_BadNumber), em_TooFar_BadNumber := (em_TooFar_BadNumber), em_BadNumber_BadPlace := (em_BadNumber_BadPlace), em_BadPlace_BadPlace := (em_BadPlace_BadPlace), em_TooFar_BadPlace := (em_TooFar_BadPlace), em_TooFar_TooFar := (em_TooFar_TooFar), n_abs := (PySem.W.mg_none_of X G n_abs), n_bool := (PySem.W.mg_none_of X G n_bool), n_int := (PySem.W.mg_none_of X G n_int), n_isinstance := (PySem.W.mg_none_of X G n_isinstance), n_len := (PySem.W.mg_none_of X G n_len), n_list := (PySem.W.mg_none_of X G n_list), n_max := (PySem.W.mg_none_of X G n_max), n_min := (PySem.W.mg_none_of X G n_min), n_range := (PySem.W.mg_none_of X G n_range), tk_MOST_STEPS := (tk_MOST_STEPS), gc_MOST_STEPS := (PySem.W.mg_of X G gc_MOST_STEPS), mi_isqrt := (PySem.W.mg_of X G mi_isqrt) } ?_ rfl
  have e := hfa.symm.trans (PySem.W.mg_of X G g_law)
  cases e
  rfl
end AW

set_option linter.all false
set_option maxRecDepth 100000
set_option maxHeartbeats 4000000
namespace AW
open PySem PySem.Spec PyProof.Rows L2
section
variable {K : PySem.W.Frag} {mg : Str → Option Value}
/-- the type of a value of the law's -/
def TyT (T : Tx K mg) (t : Value) : Prop := t = .ref T.C_Place ∨ t = .type "NoneType" ∨ t = .type "bool" ∨ t = .type "int" ∨ t = .type "str" ∨ t = .type "list" ∨ t = .type "tuple" ∨ t = .type "dict"
def isI (t : Value) : Bool := t == .type "int" || t == .type "bool"
def isB (t : Value) : Bool := t == .type "bool"
def isP (T : Tx K mg) (t : Value) : Bool := t == .ref T.C_Place
theorem kit_int (T : Tx K mg) {t : Value} (h : TyT T t) : PySem.W.kitOne K t (.type "int") = some (isI t) := by
  rcases h with rfl | rfl | rfl | rfl | rfl | rfl | rfl | rfl
  · exact T.io_Place_int
  all_goals exact kit_ty (by decide +kernel)
theorem kit_bool (T : Tx K mg) {t : Value} (h : TyT T t) : PySem.W.kitOne K t (.type "bool") = some (isB t) := by
  rcases h with rfl | rfl | rfl | rfl | rfl | rfl | rfl | rfl
  · exact T.io_Place_bool
  all_goals exact kit_ty (by decide +kernel)
theorem kit_self {t : Value} : PySem.W.kitOne K t t = some true := by
  unfold PySem.W.kitOne
  rw [if_pos (by simp)]
theorem kit_place (T : Tx K mg) {t : Value} (h : TyT T t) : PySem.W.kitOne K t (.ref T.C_Place) = some (isP T t) := by
  rcases h with rfl | rfl | rfl | rfl | rfl | rfl | rfl | rfl
  · rw [kit_self]; simp [isP]
  · exact T.is_NoneType_Place
  · exact T.is_bool_Place
  · exact T.is_int_Place
  · exact T.is_str_Place
  · exact T.is_list_Place
  · exact T.is_tuple_Place
  · exact T.is_dict_Place
def intV : V → Bool
  | .int _ => true
  | _ => false
theorem intV_of {H : Hp} {v : V} {t : Value} (ty : TyX K H v t) : (isI t && !isB t) = intV v := by
  cases ty with
  | base b => cases b <;> first | rfl | (simp [isI, isB, intV])
  | _ => rfl
/-- a value of the law's, in the heap H -/
def Vl (T : Tx K mg) (H : Hp) (v : V) : Prop := ∃ t, TyX K H v t ∧ TyT T t
theorem TyOf.mono {H H' : Hp} {v : V} {t : Value} (s : Same H H') (h : TyOf K H v t) : TyOf K H' v t := by
  cases h with
  | non => exact .non
  | bl x => exact .bl x
  | int i => exact .int i
  | str x => exact .str x
  | flt x => exact .flt x
  | lst e => exact .lst (s _ _ e)
  | frz e => exact .frz (s _ _ e)
  | tup e => exact .tup (s _ _ e)
  | dK e => exact .dK (s _ _ e)
  | dT e => exact .dT (s _ _ e)
  | ins e cl ha hn htk hm => exact .ins (s _ _ e) cl ha hn htk hm
theorem TyX.mono {H H' : Hp} {v : V} {t : Value} (s : Same H H') (h : TyX K H v t) : TyX K H' v t := by
  cases h with
  | base b => exact .base (TyOf.mono s b)
  | byt b => exact .byt b
  | set e => exact .set (s _ _ e)
  | kList e c => exact .kList e c
  | kTuple e c => exact .kTuple e c
  | kDict e c => exact .kDict e c
  | fTuple e => exact .fTuple (s _ _ e)
  | fDict e => exact .fDict (s _ _ e)
theorem Vl.mono {T : Tx K mg} {H H' : Hp} {v : V} (s : Same H H') (h : Vl T H v) : Vl T H' v := let ⟨t, a, b⟩ := h; ⟨t, TyX.mono s a, b⟩
theorem Vl.int {T : Tx K mg} {H : Hp} (i : Int) : Vl T H (.int i) := ⟨_, .base (.int i), .inr (.inr (.inr (.inl rfl)))⟩
theorem Vl.non {T : Tx K mg} {H : Hp} : Vl T H .non := ⟨_, .base .non, .inr (.inl rfl)⟩
theorem Vl.bl {T : Tx K mg} {H : Hp} (b : Bool) : Vl T H (.bl b) := ⟨_, .base (.bl b), .inr (.inr (.inl rfl))⟩
theorem Vl.str {T : Tx K mg} {H : Hp} (b : Str) : Vl T H (.str b) := ⟨_, .base (.str b), .inr (.inr (.inr (.inr (.inl rfl))))⟩
theorem Vl.lst {T : Tx K mg} {H : Hp} {a : Addr} {xs : List V} (e : H a = some (.lst xs)) : Vl T H (.ref a) := ⟨_, .base (.lst e), .inr (.inr (.inr (.inr (.inr (.inl rfl)))))⟩
theorem Vl.tup {T : Tx K mg} {H : Hp} {a : Addr} {xs : List V} (e : H a = some (.tup xs)) : Vl T H (.ref a) := ⟨_, .base (.tup e), .inr (.inr (.inr (.inr (.inr (.inr (.inl rfl))))))⟩
theorem kxy : ¬ (("x" : Str) = "y") := by decide +kernel
theorem kxa : ¬ (("x" : Str) = "area") := by decide +kernel
theorem kya : ¬ (("y" : Str) = "area") := by decide +kernel
def flds (x y a : Int) : List (Str × V) := [("x", .int x), ("y", .int y), ("area", .int a)]
/-- a Place (x, y, a) at p -/
def PlAt (T : Tx K mg) (H : Hp) (p : Addr) (x y a : Int) : Prop := ∃ dx, H p = some (.ins T.C_Place dx (flds x y a))
theorem PlAt.mono {T : Tx K mg} {H H' : Hp} {p : Addr} {x y a : Int} (s : Same H H') (h : PlAt T H p x y a) : PlAt T H' p x y a := let ⟨dx, e⟩ := h; ⟨dx, s _ _ e⟩
theorem PlAt.ty {T : Tx K mg} {H : Hp} {p : Addr} {x y a : Int} (h : PlAt T H p x y a) : TyX K H (.ref p) (.ref T.C_Place) := let ⟨_, e⟩ := h; .base (.ins e T.cl_Place T.ca_Place T.cn T.ct T.cm_Place)
theorem PlAt.vl {T : Tx K mg} {H : Hp} {p : Addr} {x y a : Int} (h : PlAt T H p x y a) : Vl T H (.ref p) := ⟨_, h.ty, .inl rfl⟩
theorem Same.laid {H : Hp} {p : Addr} {o : HO} (h : H p = none) : Same H (upd H p o) := fun b u e => by rw [upd_ne (ne_of_none e h)]; exact e
theorem Same.after {H H1 : Hp} {p : Addr} {o : HO} (s : Same H H1) (h : H1 p = none) : Same H (upd H1 p o) := s.trans (Same.laid h)
end
end AW

set_option linter.all false
set_option maxRecDepth 100000
set_option maxHeartbeats 4000000
namespace AW
open PySem PySem.Spec PyProof.Rows L2
section
variable {P : Program} {w : World} {K : PySem.W.Frag} {mg : Str → Option Value} {base : Heap}
/-- what an own error of a base def lets out, by the def's own wish -/
theorem passE {X : Cx} {E : XK} {E₁ : Value → Shared → Prop} (hs : X.stack = X.env :: X.outer := by rfl) (hf : X.env.frame = some X.env.locals := by rfl) (hex : X.ex = [] := by rfl)
    (hx : X.xe = fun e s' => wpAny (model X.prog X.w) X.A (leaving X.env e) (fun _ s'' => L2.CX X.prog X.w X.outer X.H_0 X.s_0 E e s'') E₁ s' := by rfl) : Passes (L2.CX X.prog X.w) X E :=
  passes_call (takes_of hs hf hex hx) (fun _ _ _ _ h => h)
def sp_is_integer (T : Tx K mg) : Sp := fun vs H Q _ => ∃ v, vs = [v] ∧ Vl T H v ∧ Q (.bl (intV v)) H
theorem ok_is_integer (T : Tx K mg) : FnOk P w K mg base (L2.CX P w) 1 T.a_is_integer T.d_is_integer P_is_integer (sp_is_integer T) := by
  refine T.F_is_integer.okX sc_is_integer (fun vs H Q E h => ?_) (fun cdv A outer s H vs Q E hr h => ?_)
  · obtain ⟨v, rfl, _⟩ := h
    rfl
  · obtain ⟨v, rfl, ⟨t, ty, hv⟩, k⟩ := h
    refine ⟨_, pss_one (ps_ret (pe_and (pe_callB call_isi rfl T.n_isinstance (by decide +kernel) (pa_cons (pv 0) (pa_cons (pe_bltn (v := .ty "int") rfl T.n_int (by decide +kernel) rfl) pa_nil)))
      (pe_one (pe_not (pe_callB call_isi rfl T.n_isinstance (by decide +kernel) (pa_cons (pv 0) (pa_cons (pe_bltn (v := .ty "bool") rfl T.n_bool (by decide +kernel) rfl) pa_nil))))))), ?_⟩
    refine ⟨_, rfl, v, .ty "int", t, _, isI t, rfl, .ty _, ty, kit_int T hv, _, rfl, ?_⟩
    cases hi : isI t with
    | false =>
      refine iteF ?_
      have e := intV_of ty
      rw [hi] at e
      have e' : intV v = false := by rw [← e] <;> rfl
      rw [e'] at k
      exact k
    | true =>
      refine iteT ⟨_, rfl, v, .ty "bool", t, _, isB t, rfl, .ty _, ty, kit_bool T hv, _, rfl, ?_⟩
      have e := intV_of ty
      rw [hi, Bool.true_and] at e
      rw [e]
      exact k
/-- an error's own __init__ -/
def sp_einit (C : Addr) (f : Str) : Sp := fun vs H Q _ => ∃ (a : Addr) (v : V), vs = [.ref a, v] ∧ H a = some (exo a C none) ∧ ∀ dx, H dx = none → dx ≠ a → Q .non (upd (upd H dx (exd dx [(f, v)])) a (exo a C (some dx)))
theorem ok_BadNumber_init (T : Tx K mg) : FnOk P w K mg base (L2.CX P w) 1 T.a_BadNumber_init T.d_BadNumber_init P_BadNumber_init (sp_einit T.C_BadNumber "value") := by
  refine T.F_BadNumber_init.okX sc_BadNumber_init (fun vs H Q E h => ?_) (fun cdv A outer s H vs Q E hr h => ?_)
  · obtain ⟨a, v, rfl, _⟩ := h
    rfl
  · obtain ⟨a, v, rfl, ha, k⟩ := h
    refine ⟨_, pss_one (ps_ost (pv 0) (pv 1)), ?_⟩
    exact ⟨_, rfl, _, rfl, a, T.C_BadNumber, rfl, T.X_BadNumber, T.na_BadNumber_value, .inl ⟨ha, fun dx hd ne => k dx hd ne⟩⟩
theorem ok_BadPlace_init (T : Tx K mg) : FnOk P w K mg base (L2.CX P w) 1 T.a_BadPlace_init T.d_BadPlace_init P_BadPlace_init (sp_einit T.C_BadPlace "value") := by
  refine T.F_BadPlace_init.okX sc_BadPlace_init (fun vs H Q E h => ?_) (fun cdv A outer s H vs Q E hr h => ?_)
  · obtain ⟨a, v, rfl, _⟩ := h
    rfl
  · obtain ⟨a, v, rfl, ha, k⟩ := h
    refine ⟨_, pss_one (ps_ost (pv 0) (pv 1)), ?_⟩
    exact ⟨_, rfl, _, rfl, a, T.C_BadPlace, rfl, T.X_BadPlace, T.na_BadPlace_value, .inl ⟨ha, fun dx hd ne => k dx hd ne⟩⟩
/-- the wish for an error with one field: behind it the heap has its dict -/
def Err (H : Hp) (E : XK) (C : Addr) (f : Str) (v : V) : Prop := ∀ (d : Addr) (H' : Hp), Same H H' → H d = none → H' d = some (.xd [(f, v)]) → E (.ref C) (some d) H'
theorem Err.mono {H H1 : Hp} {E : XK} {C : Addr} {f : Str} {v : V} (s : Same H H1) (e : Err H E C f v) : Err H1 E C f v := fun d H' s' n h => e d H' (s.trans s') (s.free n) h
/-- what raise C(v) asks, by the init's promise -/
theorem mk_einit {C : Addr} {f : Str} {σ : L2.St} {H : Hp} {Q : XK} {ta : TA} {v : V} (h : ta σ H fun vs H1 => vs = [v] ∧ H1 = H) (k : Err H Q C f v) (hta : ∀ (Q Q' : List V → Hp → Prop), (∀ vs H, Q vs H → Q' vs H) → ta σ H Q → ta σ H Q') : tMkO C (sp_einit C f) [] ta σ H Q := by
  refine hta _ _ ?_ h
  rintro vs H1 ⟨rfl, rfl⟩
  refine ⟨by show 1 ≤ 1000; decide, fun a ha => ⟨a, v, rfl, upd_same, fun dx hd ne => ⟨rfl, dx, [(f, v)], upd_same, ?_, ?_, ?_⟩⟩⟩
  · rw [upd_ne ne, upd_same]
  · rw [upd_ne ne] at hd; exact hd
  · have hdx : H1 dx = none := by rw [upd_ne ne] at hd; exact hd
    refine k dx _ (fun b o e => ?_) hdx upd_same
    have nb : b ≠ dx := ne_of_none e hdx
    have na : b ≠ a := ne_of_none e ha
    rw [upd_ne nb, del_ne na, upd_ne na, upd_ne nb, upd_ne na]
    exact e
def sp_check_integer (T : Tx K mg) : Sp := fun vs H Q E => ∃ v, vs = [v] ∧ Vl T H v ∧ (intV v = true → Q .non H) ∧ (intV v = false → Err H E T.C_BadNumber "value" v)
theorem ok_check_integer (T : Tx K mg) : FnOk P w K mg base (L2.CX P w) 3 T.a_check_integer T.d_check_integer P_check_integer (sp_check_integer T) := by
  have G1 : FnOk P w K mg base (L2.CX P w) 1 _ _ _ _ := ok_is_integer T
  have G2 : FnOk P w K mg base (L2.CX P w) 1 _ _ _ _ := ok_BadNumber_init T
  refine T.F_check_integer.okX sc_check_integer (fun vs H Q E h => ?_) (fun cdv A outer s H vs Q E hr h => ?_)
  · obtain ⟨v, rfl, _⟩ := h
    rfl
  · obtain ⟨v, rfl, hv, kt, kf⟩ := h
    refine ⟨_, pss_one (ps_if (pt_not (pt_val (pe_call G1 (hr.mono (by decide)) rfl T.g_is_integer T.F_is_integer.kp T.b_is_integer .nil passL (pa_cons (pv 0) pa_nil))))
      (pss_one (ps_raise rfl (takes_of rfl rfl rfl rfl) (pmk_oex T.X_BadNumber T.ei_BadNumber T.et_BadNumber G2 hr T.b_BadNumber_init .nil passL rfl T.g_C_BadNumber (by exact pa_cons (pv 0) pa_nil)))) pss_nil), ?_⟩
    refine ⟨_, rfl, v, rfl, hv, _, rfl, ?_⟩
    cases hi : intV v with
    | true => exact iteF (kt hi)
    | false =>
      refine iteT ?_
      exact mk_einit (v := v) ⟨_, rfl, rfl, rfl⟩ (kf hi) (fun Q Q' h1 ⟨x, e, h2⟩ => ⟨x, e, h1 _ _ h2⟩)
end
end AW

set_option linter.all false
set_option maxRecDepth 100000
set_option maxHeartbeats 4000000
namespace AW
open PySem PySem.Spec PyProof.Rows L2
theorem find_first {α : Type} {p : α → Bool} : ∀ {xs : List α} {i : Nat} {v : α}, xs[i]? = some v → p v = true → (∀ (j : Nat) u, j < i → xs[j]? = some u → p u = false) → xs.find? p = some v
  | [], _, _, h, _, _ => by simp at h
  | a :: r, 0, v, h, hp, _ => by
    simp at h; subst h
    simp [List.find?, hp]
  | a :: r, i + 1, v, h, hp, hq => by
    have ha : p a = false := hq 0 a (Nat.succ_pos _) (by simp)
    simp only [List.find?, ha]
    exact find_first (by simpa using h) hp fun j u hj hu => hq (j + 1) u (Nat.succ_lt_succ hj) (by simpa using hu)
section
variable {P : Program} {w : World} {K : PySem.W.Frag} {mg : Str → Option Value} {base : Heap}
def sp_Place_init (T : Tx K mg) : Sp := fun vs H Q E => ∃ (p dx : Addr) (vx vy va : V), vs = [.ref p, vx, vy, va] ∧ H p = some (.ins T.C_Place dx []) ∧ Vl T H vx ∧ Vl T H vy ∧ Vl T H va ∧
  ((∃ x y a, vx = .int x ∧ vy = .int y ∧ va = .int a ∧ ∀ H' : Hp, (∀ b o, b ≠ p → H b = some o → H' b = some o) → H' p = some (.ins T.C_Place dx (flds x y a)) → Q .non H') ∨
   (∃ v, [vx, vy, va].find? (fun v => !intV v) = some v ∧ Err H E T.C_BadNumber "value" v))
theorem putF3 (x y a : Int) : putF "area" (.int a) (putF "y" (.int y) (putF "x" (.int x) [])) = flds x y a := by
  simp [putF, flds, kxy, kxa, kya]
theorem ok_Place_init (T : Tx K mg) : FnOk P w K mg base (L2.CX P w) 4 T.a_Place_init T.d_Place_init P_Place_init (sp_Place_init T) := by
  have G1 : FnOk P w K mg base (L2.CX P w) 3 _ _ _ _ := ok_check_integer T
  refine T.F_Place_init.okX sc_Place_init (fun vs H Q E h => ?_) (fun cdv A outer s H vs Q E hr h => ?_)
  · obtain ⟨p, dx, vx, vy, va, rfl, _⟩ := h
    rfl
  · obtain ⟨p, dx, vx, vy, va, rfl, hp, hx, hy, ha, k⟩ := h
    refine ⟨_, pss_cons (ps_for (passes_of rfl) rfl (pi_tup (pe_tup (pa_cons (pv 1) (pa_cons (pv 2) (pa_cons (pv 3) pa_nil))))) (pg_name (i := 4) sc_Place_init.nd rfl (.inl rfl))
        (pss_one (ps_expr (pe_call G1 hr rfl T.g_check_integer T.F_check_integer.kp T.b_check_integer .nil (passE (E := E)) (pa_cons (pv 4) pa_nil)))))
      (pss_cons (ps_fld (pv 0) (pv 1) rfl) (pss_cons (ps_fld (pv 0) (pv 2) rfl) (pss_one (ps_fld (pv 0) (pv 3) rfl)))), ?_⟩
    refine ⟨_, rfl, _, rfl, _, rfl, (by show 3 ≤ sizeLine; decide), fun t ht => ⟨t, rfl, ⟨_, SqT.of upd_same⟩, ?_⟩⟩
    have s0 : Same H (upd H t (.tup [vx, vy, va])) := Same.laid ht
    refine for_tup (K := K) (a := t) (xs := [vx, vy, va]) (fun i σ H1 => (∃ v, σ = [some (.ref p), some vx, some vy, some va, v]) ∧ H1 = upd H t (.tup [vx, vy, va]) ∧ ∀ (j : Nat) u, j < i → [vx, vy, va][j]? = some u → (!intV u) = false)
      ⟨⟨none, rfl⟩, rfl, fun j u hj => absurd hj (Nat.not_lt_zero _)⟩ (fun i σ H1 _ ⟨_, e, _⟩ => by rw [e]; exact SqT.of upd_same) ?_ ?_
    · rintro i v σ H1 hi ⟨⟨v0, rfl⟩, rfl, hj⟩
      have hv : Vl T H v := by
        match i, hi with
        | 0, hi => simp at hi; subst hi; exact hx
        | 1, hi => simp at hi; subst hi; exact hy
        | 2, hi => simp at hi; subst hi; exact ha
      refine ⟨_, rfl, v, rfl, hv.mono s0, fun hi' => ⟨⟨_, rfl⟩, rfl, fun j u hlt hu => ?_⟩, fun hi' => ?_⟩
      · rcases Nat.lt_succ_iff_lt_or_eq.mp hlt with h | h
        · exact hj j u h hu
        · subst h; rw [hi] at hu; cases hu; rw [hi']; rfl
      · have hf := find_first (p := fun v => !intV v) hi (by rw [hi']; rfl) hj
        rcases k with ⟨x, y, a, rfl, rfl, rfl, _⟩ | ⟨v', h1, h2⟩
        · simp [List.find?, intV] at hf
        · rw [hf] at h1; cases h1
          exact h2.mono s0
    · rintro σ H1 ⟨⟨v0, rfl⟩, rfl, hj⟩
      rcases k with ⟨x, y, a, rfl, rfl, rfl, k⟩ | ⟨v', h1, h2⟩
      · have np : p ≠ t := ne_of_none hp ht
        refine ⟨_, rfl, _, rfl, p, T.C_Place, dx, [], rfl, (by rw [upd_ne np]; exact hp), T.cl_Place, T.na_Place_x, (by decide), ?_⟩
        refine ⟨_, rfl, _, rfl, p, T.C_Place, dx, _, rfl, upd_same, T.cl_Place, T.na_Place_y, (by show 1 < 1000; decide), ?_⟩
        refine ⟨_, rfl, _, rfl, p, T.C_Place, dx, _, rfl, upd_same, T.cl_Place, T.na_Place_area, (by have h1 := length_putF "y" (V.int y) (putF "x" (V.int x) []); have h2 := length_putF "x" (V.int x) []; have h3 : ([] : List (Str × V)).length = 0 := rfl; omega), ?_⟩
        refine k _ (fun b o nb e => ?_) ?_
        · rw [upd_ne nb, upd_ne nb, upd_ne nb, upd_ne (ne_of_none e ht)]
          exact e
        · rw [upd_same, putF3]
      · have hm := List.find?_some h1
        have hmem := List.mem_of_find?_eq_some h1
        obtain ⟨j, hj1, hj2⟩ := List.getElem_of_mem hmem
        have := hj j v' hj1 (by rw [List.getElem?_eq_getElem hj1, hj2])
        rw [this] at hm
        cases hm
end
end AW

set_option linter.all false
set_option maxRecDepth 100000
set_option maxHeartbeats 4000000
namespace AW
open PySem PySem.Spec PyProof.Rows L2
def Bd (k : Nat) (i : Int) : Prop := i.natAbs < 2 ^ k
theorem Bd.mono {k m : Nat} {i : Int} (h : Bd k i) (l : k ≤ m) : Bd m i := Nat.lt_of_lt_of_le h (Nat.pow_le_pow_right (by decide) l)
theorem Bd.neg {k : Nat} {i : Int} (h : Bd k i) : Bd k (-i) := by unfold Bd; rw [Int.natAbs_neg]; exact h
theorem Bd.add {k : Nat} {i j : Int} (h : Bd k i) (g : Bd k j) : Bd (k + 1) (i + j) := by
  unfold Bd at *
  rw [Nat.pow_succ]
  omega
theorem Bd.sub {k : Nat} {i j : Int} (h : Bd k i) (g : Bd k j) : Bd (k + 1) (i - j) := by
  unfold Bd at *
  rw [Nat.pow_succ]
  omega
theorem Bd.mul {k m : Nat} {i j : Int} (h : Bd k i) (g : Bd m j) : Bd (k + m) (i * j) := wide_lt h g
abbrev BIG : Nat := 400000
theorem big_mul {i j : Int} (h : Bd BIG i) (g : Bd BIG j) : CMulW i j := wide_mul h g (by decide) (by decide) (by decide)
section
variable {P : Program} {w : World} {K : PySem.W.Frag} {mg : Str → Option Value} {base : Heap}
/-- v is no Place -/
def NoP (T : Tx K mg) (H : Hp) (v : V) : Prop := ∃ t, TyX K H v t ∧ TyT T t ∧ isP T t = false
theorem NoP.vl {T : Tx K mg} {H : Hp} {v : V} (h : NoP T H v) : Vl T H v := let ⟨t, a, b, _⟩ := h; ⟨t, a, b⟩
theorem NoP.mono {T : Tx K mg} {H H' : Hp} {v : V} (s : Same H H') (h : NoP T H v) : NoP T H' v := let ⟨t, a, b, c⟩ := h; ⟨t, TyX.mono s a, b, c⟩
/-- isinstance(v, Place): no -/
theorem kit_no (T : Tx K mg) {t : Value} (ht : TyT T t) (e : isP T t = false) : PySem.W.kitOne K t (.ref T.C_Place) = some false := by rw [kit_place T ht, e]
def sp_check_place (T : Tx K mg) : Sp := fun vs H Q E => ∃ v, vs = [v] ∧ ((∃ q x y a, v = .ref q ∧ PlAt T H q x y a ∧ Q .non H) ∨ (NoP T H v ∧ Err H E T.C_BadPlace "value" v))
theorem ok_check_place (T : Tx K mg) : FnOk P w K mg base (L2.CX P w) 3 T.a_check_place T.d_check_place P_check_place (sp_check_place T) := by
  have G2 : FnOk P w K mg base (L2.CX P w) 1 _ _ _ _ := ok_BadPlace_init T
  refine T.F_check_place.okX sc_check_place (fun vs H Q E h => ?_) (fun cdv A outer s H vs Q E hr h => ?_)
  · obtain ⟨v, rfl, _⟩ := h
    rfl
  · obtain ⟨v, rfl, k⟩ := h
    refine ⟨_, pss_one (ps_if (pt_not (pt_val (pe_callB call_isi rfl T.n_isinstance (by decide +kernel) (pa_cons (pv 0) (pa_cons (pe_glob (v := .ref T.C_Place) rfl T.g_C_Place rfl) pa_nil)))))
      (pss_one (ps_raise rfl (takes_of rfl rfl rfl rfl) (pmk_oex T.X_BadPlace T.ei_BadPlace T.et_BadPlace G2 (hr.mono (by decide)) T.b_BadPlace_init .nil passL rfl T.g_C_BadPlace (by exact pa_cons (pv 0) pa_nil)))) pss_nil), ?_⟩
    rcases k with ⟨q, x', y', a', rfl, hq, k⟩ | ⟨⟨t, ty, ht, e⟩, k⟩
    · exact ⟨_, rfl, _, _, _, _, true, rfl, .own _, hq.ty, kit_self, _, rfl, iteF k⟩
    · refine ⟨_, rfl, _, _, _, _, false, rfl, .own _, ty, kit_no T ht e, _, rfl, iteT ?_⟩
      exact mk_einit (v := v) ⟨_, rfl, rfl, rfl⟩ k (fun Q Q' h1 ⟨x, e, h2⟩ => ⟨x, e, h1 _ _ h2⟩)
end
end AW

set_option linter.all false
set_option maxRecDepth 100000
set_option maxHeartbeats 4000000
namespace AW
open PySem PySem.Spec PyProof.Rows L2
variable [Tbs]
theorem Bd.add2 {k m : Nat} {i j : Int} (h : Bd k i) (g : Bd m j) : Bd (k + m + 1) (i + j) := Bd.add (h.mono (Nat.le_add_right k m)) (g.mono (Nat.le_add_left m k))
theorem Bd.sub2 {k m : Nat} {i j : Int} (h : Bd k i) (g : Bd m j) : Bd (k + m + 1) (i - j) := Bd.sub (h.mono (Nat.le_add_right k m)) (g.mono (Nat.le_add_left m k))
theorem Bd.fdiv {k : Nat} {i j : Int} (h : Bd k i) : Bd k (i.fdiv j) := by
  unfold Bd at *
  have : (i.fdiv j).natAbs ≤ i.natAbs := Int.natAbs_fdiv_le_natAbs i j
  omega
theorem Bd.lit {i : Int} (k : Nat) (h : decide (i.natAbs < 2 ^ k) = true) : Bd k i := by unfold Bd; exact of_decide_eq_true h
theorem cmc {i j : Int} (h : Bd BIG i) (g : Bd BIG j) : CMulW i j := big_mul h g
section
variable {P : Program} {w : World} {K : PySem.W.Frag} {mg : Str → Option Value} {base : Heap} {E E' : XK} {e : EW} {ρ : List (Option D)} {B : Int} {k : KD} {κ : KS} {ta tb : TE} {t : TA}
def pl (T : Tx K mg) (x y a : Int) : D := .ins T.C_Place ["x", "y", "area"] [.int x, .int y, .int a]
theorem Rep.pl {T : Tx K mg} {G : Hp} {x y a : Int} {v : V} (h : Rep K G B (AW.pl T x y a) v) : ∃ p, v = .ref p ∧ PlAt T G p x y a := by
  obtain ⟨p, dx, vs, rfl, hp, hl, hr⟩ := h
  obtain ⟨_, _, rfl, rfl, _, _, rfl, rfl, _, _, rfl, rfl, rfl⟩ := hr
  exact ⟨p, rfl, dx, hp⟩
theorem PlAt.sub {T : Tx K mg} {G H : Hp} {x y a : Int} {p : Addr} (s : Sub G H) (h : PlAt T G p x y a) : PlAt T H p x y a := let ⟨dx, e⟩ := h; ⟨dx, s _ _ e⟩
theorem we_fx (T : Tx K mg) (h : We K E e ta ρ B fun d B1 => ∃ x y a, d = pl T x y a ∧ k (.int x) B1) : We K E e (tFld K ta "x") ρ B k :=
  we_fld (h.imp fun d B1 ⟨x, y, a, ed, hk⟩ => ⟨_, _, _, .int x, ed, T.cl_Place, T.na_Place_x, by simp [List.lookup], hk⟩)
theorem we_fy (T : Tx K mg) (h : We K E e ta ρ B fun d B1 => ∃ x y a, d = pl T x y a ∧ k (.int y) B1) : We K E e (tFld K ta "y") ρ B k :=
  we_fld (h.imp fun d B1 ⟨x, y, a, ed, hk⟩ => ⟨_, _, _, .int y, ed, T.cl_Place, T.na_Place_y, by
    have h1 : (("y" : Str) == "x") = false := by decide +kernel
    simp [List.lookup, h1], hk⟩)
theorem we_fa (T : Tx K mg) (h : We K E e ta ρ B fun d B1 => ∃ x y a, d = pl T x y a ∧ k (.int a) B1) : We K E e (tFld K ta "area") ρ B k :=
  we_fld (h.imp fun d B1 ⟨x, y, a, ed, hk⟩ => ⟨_, _, _, .int a, ed, T.cl_Place, T.na_Place_area, by
    have h1 : (("area" : Str) == "x") = false := by decide +kernel
    have h2 : (("area" : Str) == "y") = false := by decide +kernel
    simp [List.lookup, h1, h2], hk⟩)
def core : D → D
  | .at_ _ d => core d
  | .tb d => core d
  | d => d
theorem Rep.core {G : Hp} : ∀ {d : D} {v : V}, Rep K G B d v → Rep K G B (AW.core d) v
  | .at_ _ d, _, ⟨_, h⟩ => Rep.core (d := d) h
  | .tb d, _, ⟨_, h⟩ => Rep.core (d := d) h
  | .non, _, h => h
  | .bl _, _, h => h
  | .int _, _, h => h
  | .str _, _, h => h
  | .tup _, _, h => h
  | .lst _, _, h => h
  | .ins _ _ _, _, h => h
  | .pen _ _, _, h => h
  | .scr _, _, h => h
  | .val _, _, h => h
  | .lam _ _, _, h => h
  | .edk, _, h => h
  | .dk _ _, _, h => h
  | .kt _, _, h => h
  | .dt _ _ _, _, h => h
/-- no object of a class of one's own -/
def plainD : D → Bool
  | .ins _ _ _ => false
  | .pen _ _ => false
  | .scr _ => false
  | .val _ => false
  | .lam _ _ => false
  | .dk _ _ => false
  | .kt _ => false
  | .dt _ _ _ => false
  | .at_ _ d => plainD d
  | .tb d => plainD d
  | _ => true
theorem tyx_tup {K : PySem.W.Frag} {H : Hp} {a : Addr} {xs : List V} (h : SqT K H a xs) : TyX K H (.ref a) (.type "tuple") := by
  rcases h with (h | ⟨o, h⟩) | ⟨o, its, n, hk, hc, _⟩
  · exact .base (.tup h)
  · exact .fTuple h
  · exact .kTuple hk hc
theorem Rep.nop {T : Tx K mg} {G H : Hp} (s : Sub G H) : ∀ {d : D} {v : V}, Rep K G B d v → plainD d = true → NoP T H v
  | .non, _, h, _ => by rw [show _ = _ from h]; exact ⟨_, .base .non, .inr (.inl rfl), rfl⟩
  | .bl b, _, h, _ => by rw [show _ = _ from h]; exact ⟨_, .base (.bl b), .inr (.inr (.inl rfl)), rfl⟩
  | .int i, _, h, _ => by rw [show _ = _ from h]; exact ⟨_, .base (.int i), .inr (.inr (.inr (.inl rfl))), rfl⟩
  | .str i, _, h, _ => by rw [show _ = _ from h]; exact ⟨_, .base (.str i), .inr (.inr (.inr (.inr (.inl rfl)))), rfl⟩
  | .lst _, _, ⟨a, vs, e, h, hr⟩, _ => by rw [e]; exact ⟨_, .base (.lst (s _ _ h)), .inr (.inr (.inr (.inr (.inr (.inl rfl))))), rfl⟩
  | .tup _, _, ⟨a, vs, e, h, hr⟩, _ => by rw [e]; exact ⟨_, tyx_tup ((Le.of_sub (B := B) (B' := B) s (Int.le_refl _)).seqT h), .inr (.inr (.inr (.inr (.inr (.inr (.inl rfl)))))), rfl⟩
  | .ins _ _ _, _, _, o => nomatch o
  | .pen _ _, _, _, o => nomatch o
  | .scr _, _, _, o => nomatch o
  | .val _, _, _, o => nomatch o
  | .lam _ _, _, _, o => nomatch o
  | .dk _ _, _, _, o => nomatch o
  | .kt _, _, _, o => nomatch o
  | .dt _ _ _, _, _, o => nomatch o
  | .at_ _ d, _, ⟨_, h⟩, o => Rep.nop s (d := d) h o
  | .tb d, _, ⟨_, h⟩, o => Rep.nop s (d := d) h o
  | .edk, _, ⟨a, e, h⟩, _ => by rw [e]; exact ⟨_, .base (.dK (s _ _ h)), .inr (.inr (.inr (.inr (.inr (.inr (.inr rfl)))))), rfl⟩
/-- a wish for an error of one field -/
theorem Err.ofX {H G : Hp} {C : Addr} {f : Str} {d : D} {v : V} (s : Sub G H) (r : Rep K G B d v) (x : XOk K E e G H B) (h : e C (some ([f], [d])) B) : Err H E C f v := fun dx H' ss nd hd => by
  have e1 : Ext G H B G H' B := ⟨Le.refl _ _, fun a o z => ss _ _ (s _ _ z), fun a o z n _ => ⟨ss _ _ z, n⟩⟩
  exact x C _ B G H' h e1 dx [v] hd rfl ⟨v, [], rfl, r, rfl⟩
def pr_check_place (T : Tx K mg) : Pr := fun ds B k e => ∃ d, ds = [d] ∧ ((∃ x y a, core d = pl T x y a ∧ k .non B) ∨ (plainD d = true ∧ e T.C_BadPlace (some (["value"], [d])) B))
theorem okD_check_place (T : Tx K mg) : FnOk P w K mg base (L2.CX P w) 3 T.a_check_place T.d_check_place P_check_place (spD K (pr_check_place T)) :=
  (ok_check_place T).imp fun vs H Q E ⟨G, ds, B, k, e, hs, hr, ⟨d, ed, h⟩, hk, hx⟩ => by
    subst ed
    obtain ⟨v, _, rfl, rv, rfl⟩ := hr
    refine ⟨v, rfl, ?_⟩
    rcases h with ⟨x, y, a, ec, h⟩ | ⟨h1, h2⟩
    · have rc := rv.core
      rw [ec] at rc
      obtain ⟨p, rfl, hp⟩ := rc.pl
      exact .inl ⟨p, x, y, a, rfl, hp.sub hs, hk _ _ _ _ _ h (Ext.refl hs) rfl⟩
    · exact .inr ⟨rv.nop hs h1, Err.ofX hs rv hx h2⟩
def intD : D → Bool
  | .int _ => true
  | .val v => AW.intV v
  | .at_ _ d => intD d
  | .tb d => intD d
  | _ => false
theorem Rep.intV {G : Hp} : ∀ {d : D} {v : V}, Rep K G B d v → AW.intV v = intD d
  | .non, _, h => by rw [show _ = _ from h]; rfl
  | .bl b, _, h => by rw [show _ = _ from h]; rfl
  | .int i, _, h => by rw [show _ = _ from h]; rfl
  | .str i, _, h => by rw [show _ = _ from h]; rfl
  | .lst _, _, ⟨a, vs, e, h, hr⟩ => by rw [e]; rfl
  | .tup _, _, ⟨a, vs, e, h, hr⟩ => by rw [e]; rfl
  | .ins _ _ _, _, ⟨a, dx, vs, e, _⟩ => by rw [e]; rfl
  | .pen _ _, _, ⟨_, a, _, _, _, _, e, _⟩ => by rw [e]; rfl
  | .scr _, _, ⟨_, a, e, _⟩ => by rw [e]; rfl
  | .lam _ _, _, ⟨f, d, e, _⟩ => by rw [e]; rfl
  | .dk _ _, _, ⟨a, _, e, _⟩ => by rw [e]; rfl
  | .kt _, _, ⟨a, e, _⟩ => by rw [e]; rfl
  | .dt _ _ _, _, ⟨a, _, e, _⟩ => by rw [e]; rfl
  | .at_ _ d, _, ⟨_, h⟩ => Rep.intV (d := d) h
  | .tb d, _, ⟨_, h⟩ => Rep.intV (d := d) h
  | .edk, _, ⟨a, e, _⟩ => by rw [e]; rfl
  | .val _, _, h => by rw [show _ = _ from h]; rfl
def plD (T : Tx K mg) (d : D) : Prop := plainD d = true ∨ ∃ x y a, core d = pl T x y a
theorem Rep.vl {T : Tx K mg} {G H : Hp} {d : D} {v : V} (s : Sub G H) (r : Rep K G B d v) (h : plD T d) : Vl T H v := by
  rcases h with h | ⟨x, y, a, ec⟩
  · exact (r.nop s h).vl
  · have rc := r.core
    rw [ec] at rc
    obtain ⟨p, rfl, hp⟩ := rc.pl
    exact (hp.sub s).vl
def pr_is_integer (T : Tx K mg) : Pr := fun ds B k e => ∃ d, ds = [d] ∧ plD T d ∧ k (.bl (intD d)) B
theorem okD_is_integer (T : Tx K mg) : FnOk P w K mg base (L2.CX P w) 1 T.a_is_integer T.d_is_integer P_is_integer (spD K (pr_is_integer T)) :=
  (ok_is_integer T).imp fun vs H Q E ⟨G, ds, B, k, e, hs, hr, ⟨d, ed, hd, h⟩, hk, hx⟩ => by
    subst ed
    obtain ⟨v, _, rfl, rv, rfl⟩ := hr
    refine ⟨v, rfl, rv.vl hs hd, ?_⟩
    rw [rv.intV]
    exact hk _ _ _ _ _ h (Ext.refl hs) rfl
def pr_check_integer (T : Tx K mg) : Pr := fun ds B k e => ∃ d, ds = [d] ∧ plD T d ∧ (intD d = true → k .non B) ∧ (intD d = false → e T.C_BadNumber (some (["value"], [d])) B)
theorem okD_check_integer (T : Tx K mg) : FnOk P w K mg base (L2.CX P w) 3 T.a_check_integer T.d_check_integer P_check_integer (spD K (pr_check_integer T)) :=
  (ok_check_integer T).imp fun vs H Q E ⟨G, ds, B, k, e, hs, hr, ⟨d, ed, hd, h1, h2⟩, hk, hx⟩ => by
    subst ed
    obtain ⟨v, _, rfl, rv, rfl⟩ := hr
    refine ⟨v, rfl, rv.vl hs hd, fun z => ?_, fun z => ?_⟩
    · rw [rv.intV] at z
      exact hk _ _ _ _ _ (h1 z) (Ext.refl hs) rfl
    · rw [rv.intV] at z
      exact Err.ofX hs rv hx (h2 z)
def pr_Place_init : List D → Int → (List D → Int → Prop) → EW → Prop := fun ds B k e => ∃ x y a : Int, ds = [.int x, .int y, .int a] ∧ k [.int x, .int y, .int a] B
theorem okD_Place_init (T : Tx K mg) : FnOk P w K mg base (L2.CX P w) 4 T.a_Place_init T.d_Place_init P_Place_init (spI K T.C_Place ["x", "y", "area"] pr_Place_init) :=
  (ok_Place_init T).imp fun vs H Q E ⟨p, dx, ws, G, ds, B, k, e, ev, hp, gp, gd, ne, hd, hs, hr, ⟨x, y, a, ed, h⟩, hk, hx⟩ => by
    subst ed
    subst ev
    obtain ⟨_, _, rfl, rfl, _, _, rfl, rfl, _, _, rfl, rfl, rfl⟩ := hr
    refine ⟨p, dx, _, _, _, rfl, hp, .int _, .int _, .int _, .inl ⟨x, y, a, rfl, rfl, rfl, fun H' s z => ?_⟩⟩
    exact hk _ [.int x, .int y, .int a] B G H' h (Le.refl _ _) (fun b o q => s b o (ne_of_none q gp) (hs _ _ q)) (fun b o q n nb _ => ⟨s b o nb q, n⟩) gp z rfl ⟨_, _, rfl, rfl, _, _, rfl, rfl, _, _, rfl, rfl, rfl⟩
variable {pr : Pr}
theorem we_inv (T : Tx K mg) (h : We K E e ta ρ B fun d B1 => ∃ x y a, d = pl T x y a ∧ pr [pl T x y a] B1 k noE) : We K E e (tUn (rUnO T.C_Place (spD K pr) E') ta) ρ B k :=
  we_un (h.imp fun d B1 ⟨x, y, a, ed, hk⟩ u H G Q s r xo q => by
    subst ed
    obtain ⟨p, rfl, dx, hp⟩ := r.pl
    exact ⟨p, dx, _, rfl, s _ _ hp, G, [pl T x y a], B1, k, noE, s, ⟨_, _, rfl, r, rfl⟩, hk, q, XOk.no⟩)
theorem we_place (T : Tx K mg) (h : Wa K E e t ρ B fun ds B1 => ∃ x y a : Int, ds = [.int x, .int y, .int a] ∧ k (pl T x y a) B1) : We K E e (tMake T.C_Place (spI K T.C_Place ["x", "y", "area"] pr_Place_init) [] E' t) ρ B k :=
  we_make fun σ H G Q s en x q => h σ H G Q s en x fun ds vs B1 G1 H1 ⟨x, y, a, ed, hk⟩ e1 r1 => q ds vs B1 G1 H1 ⟨x, y, a, ed, hk⟩ e1 r1
/-- raise C(d), C with one field -/
theorem ws_raise1 {C : Addr} {f : Str} (h : Wa K E e t ρ B fun ds B1 => ∃ d, ds = [d] ∧ e C (some ([f], [d])) B1) : Ws K E e (fun _ σ H => tMkO C (sp_einit C f) [] t σ H fun cls d H' => E cls d H') ρ B κ := fun σ H G Dn s en x q =>
  h σ H G _ s en x fun ds vs B1 G1 H1 ⟨d, ed, he⟩ e1 r1 => by
    subst ed
    obtain ⟨v, _, rfl, rv, rfl⟩ := r1
    exact mk_einit (σ := σ) (ta := fun _ H Q => Q [v] H) ⟨rfl, rfl⟩ (Err.ofX e1.sub rv (x.ext e1) he) fun Q Q' h1 h2 => h1 _ _ h2
end
end AW

set_option linter.all false
set_option maxRecDepth 100000
set_option maxHeartbeats 4000000
namespace AW
open PySem PySem.Spec PyProof.Rows L2
abbrev kC : Key := Sum.inr "cells"
abbrev kS : Key := Sum.inr "at"
abbrev kR : Key := Sum.inr "left"
theorem kCS : ¬ (kC = kS) := by decide +kernel
theorem kCR : ¬ (kC = kR) := by decide +kernel
theorem kSR : ¬ (kS = kR) := by decide +kernel
theorem kRS : ¬ (kR = kS) := by decide +kernel
def penD (c : Addr) (s r : Int) : List (Key × V) := [(kC, .ref c), (kS, .int s), (kR, .int r)]
theorem pen_c (c : Addr) (s r : Int) : valV (penD c s r) kC = some (.ref c) := valV_pos rfl
theorem pen_s (c : Addr) (s r : Int) : valV (penD c s r) kS = some (.int s) := (valV_neg kCS).trans (valV_pos rfl)
theorem pen_r (c : Addr) (s r : Int) : valV (penD c s r) kR = some (.int r) := (valV_neg kCR).trans ((valV_neg kSR).trans (valV_pos rfl))
theorem pen_ps (c : Addr) (s r z : Int) : putK (penD c s r) kS (.int z) = penD c z r := by
  unfold putK
  rw [if_pos (by rw [valV_any, pen_s]; rfl)]
  show [if kC = kS then (kC, V.int z) else (kC, V.ref c), if kS = kS then (kS, V.int z) else (kS, V.int s), if kR = kS then (kR, V.int z) else (kR, V.int r)] = penD c z r
  rw [if_neg kCS, if_pos rfl, if_neg kRS]
  rfl
theorem pen_pr (c : Addr) (s r z : Int) : putK (penD c s r) kR (.int z) = penD c s z := by
  unfold putK
  rw [if_pos (by rw [valV_any, pen_r]; rfl)]
  show [if kC = kR then (kC, V.int z) else (kC, V.ref c), if kS = kR then (kS, V.int z) else (kS, V.int s), if kR = kR then (kR, V.int z) else (kR, V.int r)] = penD c s z
  rw [if_neg kCR, if_neg kSR, if_pos rfl]
  rfl
theorem pen_mk (c : Addr) (s r : Int) : mergeK [] [(kC, .ref c), (kS, .int s), (kR, .int r)] = penD c s r := by
  unfold mergeK
  show putK (putK (putK [] kC (.ref c)) kS (.int s)) kR (.int r) = penD c s r
  rw [L2.putK_new _ valV_nil]
  rw [L2.putK_new _ (show valV ([] ++ [(kC, V.ref c)]) kS = none from valV_neg kCS)]
  rw [L2.putK_new _ (show valV ([] ++ [(kC, V.ref c)] ++ [(kS, V.int s)]) kR = none from (valV_neg kCR).trans (valV_neg kSR))]
  rfl
/-- the pen at p: its cells, at most 63 ints; no more than B stops so far -/
structure Pen (H : Hp) (p : Addr) (B : Int) : Prop where
  at_ : ∃ (c : Addr) (ns : List Int) (s r : Int), H p = some (.dK (penD c s r)) ∧ H c = some (.lst (ns.map V.int)) ∧ ns.length ≤ 63 ∧ 0 ≤ s ∧ s ≤ B
theorem dg_c {H : Hp} {p c : Addr} {s r : Int} (e : H p = some (.dK (penD c s r))) : DGet H p (.str "cells") (some (.ref c)) := by
  have h := DGet.k (k := kC) e
  rw [pen_c] at h
  exact h
theorem dg_s {H : Hp} {p c : Addr} {s r : Int} (e : H p = some (.dK (penD c s r))) : DGet H p (.str "at") (some (.int s)) := by
  have h := DGet.k (k := kS) e
  rw [pen_s] at h
  exact h
theorem dg_r {H : Hp} {p c : Addr} {s r : Int} (e : H p = some (.dK (penD c s r))) : DGet H p (.str "left") (some (.int r)) := by
  have h := DGet.k (k := kR) e
  rw [pen_r] at h
  exact h
theorem dp_s {H : Hp} {p c : Addr} {s r z : Int} (e : H p = some (.dK (penD c s r))) : DPut H p (.str "at") (.int z) (upd H p (.dK (penD c z r))) := by
  have h := DPut.k (k := kS) (v := .int z) e (by show 3 < sizeLine; decide)
  rw [pen_ps] at h
  exact h
theorem dp_r {H : Hp} {p c : Addr} {s r z : Int} (e : H p = some (.dK (penD c s r))) : DPut H p (.str "left") (.int z) (upd H p (.dK (penD c s z))) := by
  have h := DPut.k (k := kR) (v := .int z) e (by show 3 < sizeLine; decide)
  rw [pen_pr] at h
  exact h
/-- all but the pen stays -/
structure But (p : Addr) (H H' : Hp) : Prop where
  st : ∀ b o, b ≠ p → H b = some o → H' b = some o
  cl : ∀ c s r, H p = some (.dK (penD c s r)) → ∃ s' r', H' p = some (.dK (penD c s' r'))
theorem But.refl {p : Addr} (H : Hp) : But p H H := ⟨fun _ _ _ h => h, fun _ s r h => ⟨s, r, h⟩⟩
theorem But.trans {p : Addr} {H H1 H2 : Hp} (a : But p H H1) (b : But p H1 H2) : But p H H2 :=
  ⟨fun c o n h => b.st c o n (a.st c o n h), fun c s r h => by
    obtain ⟨s1, r1, h1⟩ := a.cl c s r h
    exact b.cl c s1 r1 h1⟩
theorem But.of {p : Addr} {H H' : Hp} (s : Same H H') : But p H H' := ⟨fun b o _ h => s b o h, fun c z r h => ⟨z, r, s _ _ h⟩⟩
theorem penD_inj {c c' : Addr} {s r s' r' : Int} (h : penD c s r = penD c' s' r') : c = c' := by
  injection h with h1 _
  injection h1 with _ h2
  injection h2
theorem But.upd {p c : Addr} {z r z' r' : Int} {H H' : Hp} (s : But p H H') (e : H' p = some (.dK (penD c z r))) : But p H (upd H' p (.dK (penD c z' r'))) :=
  ⟨fun b u n h => by rw [upd_ne n]; exact s.st b u n h, fun c2 s2 r2 h => by
    obtain ⟨s3, r3, h3⟩ := s.cl c2 s2 r2 h
    rw [e] at h3
    injection h3 with h3
    injection h3 with h3
    rw [penD_inj h3] at *
    exact ⟨z', r', upd_same⟩⟩
theorem But.new {p q : Addr} {H H' : Hp} {o : HO} (s : But p H H') (h : H' q = none) : But p H (L2.upd H' q o) :=
  ⟨fun b u n e => by
    have e' := s.st b u n e
    rw [upd_ne (ne_of_none e' h)]
    exact e', fun c z r e => by
    obtain ⟨z1, r1, e1⟩ := s.cl c z r e
    exact ⟨z1, r1, by rw [upd_ne (ne_of_none e1 h)]; exact e1⟩⟩
theorem Pen.mono {H H' : Hp} {p : Addr} {B B' : Int} (h : Pen H p B) (l : B ≤ B') (s : Same H H') : Pen H' p B' := by
  obtain ⟨c, ns, z, r, e1, e2, h1, h2, h3⟩ := h.at_
  exact ⟨⟨c, ns, z, r, s _ _ e1, s _ _ e2, h1, h2, Int.le_trans h3 l⟩⟩
theorem Pen.le {H : Hp} {p : Addr} {B B' : Int} (h : Pen H p B) (l : B ≤ B') : Pen H p B' := h.mono l (Same.refl H)
theorem fmod_in {a b : Int} (h : 0 < b) : 0 ≤ a.fmod b ∧ a.fmod b < b := ⟨Int.fmod_nonneg_of_pos a h, Int.fmod_lt_of_pos a h⟩
section
variable {P : Program} {w : World} {K : PySem.W.Frag} {mg : Str → Option Value} {base : Heap}
def sp_l_pen (T : Tx K mg) : Sp := fun vs H Q E => ∃ (a : Addr) (ns : List Int), vs = [.ref a] ∧ SqL K H a (ns.map V.int) ∧ ns.length ≤ 63 ∧ ∀ p c H', Same H H' → H p = none → H c = none → c ≠ p → H' p = some (.dK (penD c 0 0)) → H' c = some (.lst (ns.map V.int)) → Q (.ref p) H'
theorem ok_l_pen (T : Tx K mg) : FnOk P w K mg base (L2.CX P w) 1 T.a_l_pen T.d_l_pen P_l_pen (sp_l_pen T) := by
  refine T.F_l_pen.okX sc_l_pen (fun vs H Q E h => ?_) (fun cdv A outer s H vs Q E hr h => ?_)
  · obtain ⟨a, ns, rfl, _⟩ := h
    rfl
  · obtain ⟨a, ns, rfl, hS, hlen, k⟩ := h
    refine ⟨_, pss_one (ps_ret (pe_disp (pps_cons pe_str (pe_callTy call_list_of rfl T.n_list (by decide +kernel) (pa_cons (pe_slice sl_list (pv 0) po_none (po_some pe_int)) pa_nil))
      (pps_cons pe_str pe_int (pps_cons pe_str pe_int pps_nil))) (by rfl) (by rfl) (fun z => by cases z) (by decide))), ?_⟩
    refine fun p np => ?_
    have s1 : Same H (upd H p (.dK [])) := Same.laid np
    refine ⟨_, rfl, _, rfl, a, _, rfl, s1.seq hS, fun q nq => ⟨q, _, rfl, .inl (.of upd_same), fun l nl => ?_⟩⟩
    have npq : p ≠ q := ne_of_none upd_same nq
    have nql : q ≠ l := ne_of_none upd_same nl
    have npl : p ≠ l := ne_of_none (by rw [upd_ne npq]; exact upd_same) nl
    refine ⟨by rw [upd_ne npl, upd_ne npq, upd_same], [(kC, .ref l), (kS, .int 0), (kR, .int 0)], rfl, (by show 3 ≤ 15; decide), ?_⟩
    have hcut : cutV (ns.map V.int) none (some 63) = ns.map V.int := by
      unfold cutV
      have e1 : HT.sIx (ns.map V.int).length 0 none = 0 := rfl
      have e2 : (ns.map V.int).length ≤ 63 := by rw [List.length_map]; exact hlen
      rw [e1]
      show ((ns.map V.int).drop 0).take _ = _
      rw [List.drop_zero, List.take_of_length_le]
      have e3 : HT.sIx (ns.map V.int).length (ns.map V.int).length (some 63) = (ns.map V.int).length := by
        simp [HT.sIx]
        omega
      rw [e3]
      omega
    have sF : Same H (upd (upd (upd (upd H p (.dK [])) q (.lst (cutV (ns.map V.int) none (some 63)))) l (.lst (cutV (ns.map V.int) none (some 63)))) p (.dK (mergeK [] [(kC, .ref l), (kS, .int 0), (kR, .int 0)]))) := fun b o e => by
      have nb : b ≠ p := ne_of_none e np
      have e1 : upd H p (.dK []) b = some o := by rw [upd_ne nb]; exact e
      have nq' : b ≠ q := ne_of_none e1 nq
      have e2 : upd (upd H p (.dK [])) q (.lst (cutV (ns.map V.int) none (some 63))) b = some o := by rw [upd_ne nq']; exact e1
      rw [upd_ne nb, upd_ne (ne_of_none e2 nl)]
      exact e2
    have nl0 : H l = none := by
      cases z : H l with
      | none => rfl
      | some u =>
        have z1 := s1 _ _ z
        have nql' : l ≠ q := fun w => by rw [w, nq] at z1; cases z1
        rw [upd_ne nql', z1] at nl
        cases nl
    refine k p l _ sF np nl0 npl.symm ?_ ?_
    · rw [pen_mk]; exact upd_same
    · rw [upd_ne npl.symm, upd_same, hcut]
end
end AW

set_option linter.all false
set_option maxRecDepth 100000
set_option maxHeartbeats 8000000
namespace AW
open PySem PySem.Spec PyProof.Rows L2
section
variable {P : Program} {w : World} {K : PySem.W.Frag} {mg : Str → Option Value} {base : Heap}
theorem dp_ints {K : PySem.W.Frag} {H : Hp} : ∀ ms : List Int, DpAll K H (ms.map V.int) (ms.map PyData.int)
  | [] => .nil
  | m :: r => .cons (.int m) (dp_ints r)
theorem sh_ints (ms : List Int) : SeqAt.shaped (.list (ms.map PyData.int)) = true := PySem.W.ke_shaped_ints ms
/-- a drawn number, the pen a stop further at most -/
def Drawn (H : Hp) (Q : VK) (p : Addr) (B : Int) (ok : Int → Prop) : Prop := ∀ (d : Int) (H' : Hp), ok d → But p H H' → Pen H' p B → Q (.int d) H'
def sp_l_draw (T : Tx K mg) : Sp := fun vs H Q E => ∃ (p : Addr) (n B : Int), vs = [.ref p, .int n] ∧ 0 < n ∧ n < 1073741824 ∧ Pen H p B ∧ B ≤ 1000000 ∧ Drawn H Q p (B + 1) fun d => 0 ≤ d ∧ d < n
theorem ok_l_draw (T : Tx K mg) : FnOk P w K mg base (L2.CX P w) 1 T.a_l_draw T.d_l_draw P_l_draw (sp_l_draw T) := by
  refine T.F_l_draw.okX sc_l_draw (fun vs H Q E h => ?_) (fun cdv A outer s H vs Q E hr h => ?_)
  · obtain ⟨p, n, B, rfl, _⟩ := h
    rfl
  · obtain ⟨p, n, B, rfl, h0, h1, hp, hB, k⟩ := h
    have hu := hu_of hr
    obtain ⟨c, ns, st, rs, e1, e2, hl, hs0, hsB⟩ := hp.at_
    have npc : p ≠ c := ne_of e1 e2 (by intro z; cases z)
    refine ⟨_, (pss_cons (ps_if (pt_cmpR op_ge (pe_dget hu (pv 0) pe_str (fun _ _ => rfl)) (pv 1) (nomark _))
 (pss_cons (ps_set (i := 2) sc_l_draw.nd rfl (.inl rfl) (pe_op op_modN (pe_callTy call_int1 (by rfl) T.n_int (by decide +kernel) (pa_cons (pe_dget hu (pv 0) pe_str (fun _ _ => rfl)) pa_nil)) (pv 1)))
 (pss_cons (ps_dput hu (pv 0) pe_str (pe_op op_fdivN (pe_dget hu (pv 0) pe_str (fun _ _ => rfl)) (pv 1)) rfl)
 (pss_one (ps_ret (pv 2)))))
 pss_nil)
 (pss_cons (ps_set (i := 3) sc_l_draw.nd rfl (.inl rfl) (pe_dget hu (pv 0) pe_str (fun _ _ => rfl)))
 (pss_cons (ps_dput hu (pv 0) pe_str (pe_op op_add (pv 3) pe_int) rfl)
 (pss_cons (ps_set (i := 4) sc_l_draw.nd rfl (.inl rfl) (pe_op op_add (pe_op op_mul pe_int (pv 3)) pe_int))
 (pss_cons (ps_if (pt_cmpR (op_neD hr.units) (pe_dget hu (pv 0) pe_str (fun _ _ => rfl)) (pe_lst pa_nil) (nomark _))
 (pss_one (ps_set (i := 4) sc_l_draw.nd rfl (.inl rfl) (pe_ix ix_list (pe_dget hu (pv 0) pe_str (fun _ _ => rfl)) (pe_op op_modN (pe_callTy call_int1 (by rfl) T.n_int (by decide +kernel) (pa_cons (pv 3) pa_nil)) (pe_callB call_len_seq (by rfl) T.n_len (by decide +kernel) (pa_cons (pe_dget hu (pv 0) pe_str (fun _ _ => rfl)) pa_nil))) (fun _ _ => rfl))))
 pss_nil)
 (pss_cons (ps_if (PW.pt (pw_and (pt_cmpR op_lt (pv 3) (pe_callB call_len_seq (by rfl) T.n_len (by decide +kernel) (pa_cons (pe_dget hu (pv 0) pe_str (fun _ _ => rfl)) pa_nil)) (nomark _)) (pw_and1 (pt_cmpR op_ge (pv 4) (pe_op op_pow pe_int pe_int) (nomark _)))))
 (pss_cons (ps_dput hu (pv 0) pe_str (pe_op op_fdivN (pe_op op_sub (pv 4) (pe_op op_pow pe_int pe_int)) (pv 1)) rfl)
 (pss_one (ps_ret (pe_op op_modN (pe_callTy call_int1 (by rfl) T.n_int (by decide +kernel) (pa_cons (pe_op op_sub (pv 4) (pe_op op_pow pe_int pe_int)) pa_nil)) (pv 1)))))
 pss_nil)
 (pss_cons (ps_set (i := 5) sc_l_draw.nd rfl (.inl rfl) (pe_op op_add (pe_op op_mul (pe_op op_modN (pe_callTy call_int1 (by rfl) T.n_int (by decide +kernel) (pa_cons (pv 4) pa_nil)) pe_int) pe_int) (pe_op op_mul (pe_op op_mul pe_int (pv 3)) (pv 3))))
 (pss_cons (ps_set (i := 5) sc_l_draw.nd rfl (.inl rfl) (pe_op op_modN (pe_callTy call_int1 (by rfl) T.n_int (by decide +kernel) (pa_cons (pe_op op_add (pe_op op_add (pv 5) (pe_op op_mul pe_int (pv 3))) pe_int) pa_nil)) pe_int))
 (pss_cons (ps_set (i := 5) sc_l_draw.nd rfl (.inl rfl) (pe_op op_modN (pe_callTy call_int1 (by rfl) T.n_int (by decide +kernel) (pa_cons (pe_op op_add (pe_op op_mul (pv 5) (pe_op op_add (pv 5) pe_int)) (pe_op op_mul pe_int (pv 3))) pa_nil)) pe_int))
 (pss_one (ps_ret (pe_op op_modN (pe_callTy call_int1 (by rfl) T.n_int (by decide +kernel) (pa_cons (pe_op op_fdivN (pe_op op_modN (pe_callTy call_int1 (by rfl) T.n_int (by decide +kernel) (pa_cons (pe_op op_add (pe_op op_mul (pv 5) (pv 5)) (pe_op op_mul pe_int (pv 5))) pa_nil)) pe_int) pe_int) pa_nil)) (pv 1))))))))))))), ?_⟩
    have dn : CDivN rs n := ⟨by omega, by omega⟩
    refine ⟨_, rfl, p, _, rfl, dg_r e1, _, rfl, _, _, rfl, rfl, _, rfl, ?_⟩
    refine ite2 (fun _ => ?_) (fun _ => ?_)
    · refine ⟨_, rfl, p, _, rfl, dg_r e1, .inl ⟨_, rfl, _, rfl, _, _, rfl, rfl, (by omega), ?_⟩⟩
      refine ⟨_, rfl, p, _, rfl, dg_r e1, _, rfl, _, _, rfl, rfl, dn, _, rfl, p, _, rfl, dp_r e1, ?_⟩
      refine ⟨_, rfl, k _ _ (fmod_in h0) (But.upd (But.refl H) e1) ⟨c, ns, st, _, upd_same, by rw [upd_ne npc.symm]; exact e2, hl, hs0, by omega⟩⟩
    · refine ⟨_, rfl, p, _, rfl, dg_s e1, ?_⟩
      refine ⟨_, rfl, _, _, rfl, rfl, _, rfl, p, _, rfl, dp_s e1, ?_⟩
      refine ⟨_, rfl, _, _, rfl, rfl, .inl ⟨by decide, by decide⟩, _, _, rfl, rfl, ?_⟩
      have hp1 : upd H p (.dK (penD c (st + 1) rs)) p = some (.dK (penD c (st + 1) rs)) := upd_same
      have hc1 : upd H p (.dK (penD c (st + 1) rs)) c = some (.lst (ns.map V.int)) := by rw [upd_ne npc.symm]; exact e2
      have b1 : But p H (upd H p (.dK (penD c (st + 1) rs))) := But.upd (But.refl H) e1
      generalize upd H p (.dK (penD c (st + 1) rs)) = H1 at hp1 hc1 b1 ⊢
      refine ⟨_, rfl, p, _, rfl, dg_c hp1, (by show 0 ≤ sizeLine; decide), fun e0 ne0 => ?_⟩
      have se0 : Same H1 (upd H1 e0 (.lst [])) := Same.laid ne0
      have hp2 := se0 _ _ hp1
      have hc2 := se0 _ _ hc1
      have b2 : But p H (upd H1 e0 (.lst [])) := b1.new ne0
      have he2 : upd H1 e0 (.lst []) e0 = some (.lst []) := upd_same
      generalize upd H1 e0 (.lst []) = H2 at hp2 hc2 b2 he2 ⊢
      refine ⟨.list (ns.map PyData.int), .list [], .lst (SqL.of hc2) (dp_ints ns), .lst (SqL.of he2) .nil, sh_ints ns, rfl, _, rfl, ?_⟩
      have dz : ∀ z : Int, CDivN z n := fun z => ⟨by omega, by omega⟩
      have n0 : n ≠ 0 := by omega
      have cp : CPow 10 18 := ⟨by decide, by decide, by decide⟩
      have nzA : (2147482417 : Int) ≠ 0 := by decide
      have nzB : (2147482481 : Int) ≠ 0 := by decide
      have nzC : (2147482507 : Int) ≠ 0 := by decide
      have nzD : (2147482577 : Int) ≠ 0 := by decide
      have bB : ∀ x : Int, -(2 ^ 64) < x.fmod 2147482481 ∧ x.fmod 2147482481 < 2 ^ 64 := fun x => by have := fmod_in (a := x) (b := 2147482481) (by decide); omega
      have bC : ∀ x : Int, -(2 ^ 64) < x.fmod 2147482507 ∧ x.fmod 2147482507 < 2 ^ 64 := fun x => by have := fmod_in (a := x) (b := 2147482507) (by decide); omega
      have kk : ∀ (z : Int) H', But p H H' → Pen H' p (B + 1) → Q (.int (z.fmod n)) H' := fun z H' b q => k _ H' (fmod_in h0) b q
      have P2 : ∀ H', (∃ r, H' p = some (.dK (penD c (st + 1) r))) → H' c = some (.lst (ns.map V.int)) → Pen H' p (B + 1) := fun H' ⟨r, e⟩ e' => ⟨c, ns, st + 1, r, e, e', hl, by omega, by omega⟩
      refine ite2 (fun hne => ?_) (fun _ => ?_)
      focus
        have hpos : 0 < ns.length := by
          cases ns with
          | nil => exact absurd hne (by decide)
          | cons a r => exact Nat.succ_pos _
        have hm := fmod_in (a := st) (b := (ns.length : Int)) (by omega)
        have hi : ∃ z, atI (ns.map V.int) (st.fmod ((ns.map V.int).length : Int)) = some (.int z) := by
          rw [List.length_map]
          obtain ⟨j, hj⟩ := Int.eq_ofNat_of_zero_le hm.1
          have hj2 : j < ns.length := by omega
          refine ⟨ns[j], ?_⟩
          rw [hj, atI_nat (by rw [List.getElem?_map, List.getElem?_eq_getElem hj2]; rfl)]
        obtain ⟨z, hz⟩ := hi
        refine ⟨_, rfl, p, _, rfl, dg_c hp2, _, rfl, .inl ⟨_, rfl, _, rfl, p, _, rfl, dg_c hp2, c, _, rfl, .inl (SqL.of hc2), _, _, rfl, rfl, (by rw [List.length_map]; omega), c, _, _, _, rfl, rfl, SqL.of hc2, hz, ?_⟩⟩
        clear hz hm hne hpos
      all_goals
        refine ⟨_, rfl, _, rfl, p, _, rfl, dg_c hp2, c, _, rfl, .inl (SqL.of hc2), _, _, rfl, rfl, _, rfl, ?_⟩
        refine ite2 (fun _ => ?_) (fun _ => ?_)
        focus
          refine ⟨_, rfl, _, _, rfl, rfl, cp, _, _, rfl, rfl, _, rfl, ?_⟩
          refine ite2 (fun _ => ?_) (fun _ => ?_)
          focus
            refine ⟨_, rfl, _, _, rfl, rfl, cp, _, _, rfl, rfl, _, rfl, _, _, rfl, rfl, dz _, _, rfl, p, _, rfl, dp_r hp2, ?_⟩
            refine ⟨_, rfl, _, _, rfl, rfl, cp, _, _, rfl, rfl, .inl ⟨_, rfl, _, rfl, _, _, rfl, rfl, n0, ?_⟩⟩
            exact kk _ _ (b2.upd hp2) (P2 _ ⟨_, upd_same⟩ (by rw [upd_ne npc.symm]; exact hc2))
        rotate_left
        focus
          refine iteF ?_
        all_goals
          refine ⟨_, rfl, .inl ⟨_, rfl, _, _, rfl, rfl, nzA, _, _, rfl, rfl, .inr ⟨by decide, by decide⟩, _, rfl, _, _, rfl, rfl, .inl ⟨by decide, by decide⟩, _, rfl, _, _, rfl, rfl, .inr ⟨by omega, by omega⟩, _, _, rfl, rfl, ?_⟩⟩
          refine ⟨_, rfl, _, rfl, _, _, rfl, rfl, .inl ⟨by decide, by decide⟩, _, _, rfl, rfl, _, _, rfl, rfl, .inl ⟨_, rfl, _, _, rfl, rfl, nzB, ?_⟩⟩
          refine ⟨_, rfl, _, rfl, _, _, rfl, rfl, _, _, rfl, rfl, .inl (bB _), _, rfl, _, _, rfl, rfl, .inl ⟨by decide, by decide⟩, _, _, rfl, rfl, .inl ⟨_, rfl, _, _, rfl, rfl, nzC, ?_⟩⟩
          refine ⟨_, rfl, _, rfl, _, _, rfl, rfl, .inl (bC _), _, rfl, _, _, rfl, rfl, .inl ⟨by decide, by decide⟩, _, _, rfl, rfl, .inl ⟨_, rfl, _, _, rfl, rfl, nzD, ?_⟩⟩
          refine ⟨_, _, rfl, rfl, ⟨by decide, by decide⟩, .inl ⟨_, rfl, _, rfl, _, _, rfl, rfl, n0, ?_⟩⟩
          exact kk _ _ b2 (P2 _ ⟨_, hp2⟩ hc2)
end
end AW

set_option linter.all false
set_option maxRecDepth 100000
set_option maxHeartbeats 8000000
namespace AW
open PySem PySem.Spec PyProof.Rows L2 Fewest
variable [Tbs]
section
variable {P : Program} {w : World} {K : PySem.W.Frag} {mg : Str → Option Value} {base : Heap}
theorem ne_of_dec {a b : Int} (h : (!decide (a = b)) = true) : ¬ a = b := by simpa using h
def badF (m : Int) (d : D) : Prop := intD d = false ∨ ∃ i : Int, d = .int i ∧ i < m
abbrev badW (d : D) : Prop := badF 0 d
def pr_check_from (T : Tx K mg) : Pr := fun ds B k e => ∃ d m, ds = [d, .int m] ∧ ((∃ i : Int, d = .int i ∧ m ≤ i ∧ k .non B) ∨ (plainD d = true ∧ badF m d ∧ e T.C_BadNumber (some ((["value"] : List Str), [d])) B))
theorem okD_check_from (T : Tx K mg) : FnOk P w K mg base (L2.CX P w) 3 T.a_check_from T.d_check_from P_check_from (spD K (pr_check_from T)) := by
  refine T.F_check_from.okX sc_check_from (spD_len fun ds B k e h => by obtain ⟨d, m, rfl, hk⟩ := h; rfl) (fun cdv A outer s H vs Q E hr h => ?_)
  have G_BadNumber_init : FnOk P w K mg base (L2.CX P w) 1 _ _ _ _ := ok_BadNumber_init T
  have G_is_integer : FnOk P w K mg base (L2.CX P w) _ _ _ _ _ := okD_is_integer T
  obtain ⟨G, ds, B, k, e, hs, hR, ⟨d, m, rfl, hk⟩, hK, hX⟩ := h
  refine ⟨_, (pss_one (ps_if (PW.pt (pw_or (pt_not (pt_val (pe_call G_is_integer (hr.mono (by decide)) (by rfl) T.g_is_integer T.F_is_integer.kp T.b_is_integer .nil (passE (E := E)) (pa_cons (pv 0) pa_nil)))) (pw_or1 (pt_cmpR op_lt (pv 0) (pv 1) (nomark _)))))
 (pss_one (ps_raise rfl (takes_of rfl rfl rfl rfl) (pmk_oex T.X_BadNumber T.ei_BadNumber T.et_BadNumber G_BadNumber_init (hr.mono (by decide)) T.b_BadNumber_init .nil passL rfl T.g_C_BadNumber (by exact (pa_cons (pv 0) pa_nil)))))
 pss_nil)), run_body (ρ := [some d, some (.int m)]) hs hR hK hX rfl ?_⟩
  rcases hk with ⟨i, rfl, h0, hk⟩ | ⟨hp, hb, he⟩
  · refine ws_if <| wt_or <| wt_not <| wt_val <| we_call <| wa_cons <| we_var rfl <| wa_nil ⟨_, rfl, .inl rfl, _, rfl, fun h => (nomatch h), fun _ => wt_test <| we_op <| we_var rfl <| we_var rfl <| ro_b0 ⟨_, rfl, fun h => ?_, fun h => ws_next hk⟩⟩
    exact absurd (of_decide_eq_true h) (by omega)
  · rcases hb with hb | ⟨i, rfl, h0⟩
    · refine ws_if <| wt_or <| wt_not <| wt_val <| we_call <| wa_cons <| we_var rfl <| wa_nil ⟨_, rfl, .inl hp, _, rfl, fun _ => ⟨fun _ => ws_raise1 (wa_cons (we_var rfl (wa_nil ⟨_, rfl, he⟩))), fun h => (nomatch h)⟩, fun h => ?_⟩
      rw [hb] at h
      cases h
    · refine ws_if <| wt_or <| wt_not <| wt_val <| we_call <| wa_cons <| we_var rfl <| wa_nil ⟨_, rfl, .inl rfl, _, rfl, fun h => (nomatch h), fun _ => wt_test <| we_op <| we_var rfl <| we_var rfl <| ro_b0 ⟨_, rfl, fun _ => ws_raise1 (wa_cons (we_var rfl (wa_nil ⟨_, rfl, he⟩))), fun h => ?_⟩⟩
      exact absurd h0 (of_decide_eq_false h)
def pr_check_whole (T : Tx K mg) : Pr := fun ds B k e => ∃ d, ds = [d] ∧ ((∃ i : Int, d = .int i ∧ 0 ≤ i ∧ k .non B) ∨ (plainD d = true ∧ badW d ∧ e T.C_BadNumber (some ((["value"] : List Str), [d])) B))
theorem okD_check_whole (T : Tx K mg) : FnOk P w K mg base (L2.CX P w) 4 T.a_check_whole T.d_check_whole P_check_whole (spD K (pr_check_whole T)) := by
  refine T.F_check_whole.okX sc_check_whole (spD_len fun ds B k e h => by obtain ⟨d, rfl, hk⟩ := h; rfl) (fun cdv A outer s H vs Q E hr h => ?_)
  have G_check_from : FnOk P w K mg base (L2.CX P w) 3 _ _ _ _ := okD_check_from T
  obtain ⟨G, ds, B, k, e, hs, hR, ⟨d, rfl, hk⟩, hK, hX⟩ := h
  refine ⟨_, (pss_one (ps_expr (pe_call G_check_from (hr.mono (by decide)) (by rfl) T.g_check_from T.F_check_from.kp T.b_check_from .nil (passE (E := E)) (pa_cons (pv 0) (pa_cons pe_int pa_nil))))), run_body (ρ := [some d]) hs hR hK hX rfl ?_⟩
  exact ws_drop <| we_callE <| wa_cons <| we_var rfl <| wa_cons <| we_int <| wa_nil ⟨d, 0, rfl, hk⟩
def pr_Place_invert (T : Tx K mg) : Pr := fun ds B k e => ∃ x y a, ds = [pl T x y a] ∧ CMulW x y ∧ k (pl T (-x) (-y) (x * y - a)) B
theorem okD_Place_invert (T : Tx K mg) : FnOk P w K mg base (L2.CX P w) 6 T.a_Place_invert T.d_Place_invert P_Place_invert (spD K (pr_Place_invert T)) := by
  refine T.F_Place_invert.okX sc_Place_invert (spD_len fun ds B k e h => by obtain ⟨x, y, a, rfl, c, hk⟩ := h; rfl) (fun cdv A outer s H vs Q E hr h => ?_)
  have G_Place_init : FnOk P w K mg base (L2.CX P w) _ _ _ _ _ := okD_Place_init T
  obtain ⟨G, ds, B, k, e, hs, hR, ⟨x, y, a, rfl, c, hk⟩, hK, hX⟩ := h
  refine ⟨_, (pss_one (ps_ret (pe_make T.M_Place G_Place_init (hr.mono (by decide)) (by rfl) T.g_C_Place T.b_Place_init .nil passL (pa_cons (pe_un un_neg (pe_fld (pv 0) rfl)) (pa_cons (pe_un un_neg (pe_fld (pv 0) rfl)) (pa_cons (pe_op op_sub (pe_op op_mulW (pe_fld (pv 0) rfl) (pe_fld (pv 0) rfl)) (pe_fld (pv 0) rfl)) pa_nil)))))), run_body (ρ := [some (pl T x y a)]) hs hR hK hX rfl ?_⟩
  refine (ws_ret (we_place T (wa_cons (we_neg (we_fx T (we_var rfl ⟨_, _, _, rfl, ⟨_, rfl, (wa_cons (we_neg (we_fy T (we_var rfl ⟨_, _, _, rfl, ⟨_, rfl, (wa_cons (we_op (we_op (we_fx T (we_var rfl ⟨_, _, _, rfl, (we_fy T (we_var rfl ⟨_, _, _, rfl, (ro_i c (we_fa T (we_var rfl ⟨_, _, _, rfl, (ro_i0 (wa_nil ⟨_, _, _, rfl, ?_⟩))⟩)))⟩))⟩)))))⟩⟩))))⟩⟩))))))
  exact hk
end
end AW

set_option linter.all false
set_option maxRecDepth 100000
set_option maxHeartbeats 8000000
namespace AW
open PySem PySem.Spec PyProof.Rows L2
section
variable {P : Program} {w : World} {K : PySem.W.Frag} {mg : Str → Option Value} {base : Heap}
/-- the whole root, by what it is -/
def rRoot : List V → Hp → VK → Prop := fun vs H Q => ∃ a : Int, vs = [.int a] ∧ 0 ≤ a ∧ Bd 12000 a ∧ ∀ r : Int, 0 ≤ r → r * r ≤ a → a < (r + 1) * (r + 1) → Q (.int r) H
theorem Bd.one {k : Nat} (h : 1 ≤ k) : Bd k 1 := by
  show 1 < 2 ^ k
  exact Nat.lt_of_lt_of_le (by decide : 1 < 2 ^ 1) (Nat.pow_le_pow_right (by decide) h)
theorem cr_root {X : Cx} : CallR X (.builtin "math.isqrt") rRoot := by
  intro pins s σ H vs us Q I r h
  obtain ⟨a, rfl, a0, hb, q⟩ := h
  obtain ⟨u, rfl, t, rfl⟩ := vals1 r
  have l : a.toNat.log2 ≤ 12000 := by
    refine PySem.W.mg_log ?_
    have : a.natAbs = a.toNat := by omega
    rw [← this]
    exact Nat.lt_trans hb (Nat.pow_lt_pow_right (by decide) (by decide))
  have sp := Float64.isqrt_spec a.toNat
  refine call_function_meets PySem.W.MGF.kind_isqrt PySem.W.MGF.plain_isqrt PySem.W.MGF.entry_isqrt (PySem.W.MGF.args_isqrt _) (PySem.W.mg_run_isqrt a t (by omega) (by omega) (by omega)).meets ?_
  refine ⟨.int _, H, I.tok _, ⟨_, rfl⟩, q _ (by omega) ?_ ?_⟩
  · have := sp.1
    have e : ((Float64.isqrt a.toNat * Float64.isqrt a.toNat : Nat) : Int) ≤ a := by omega
    rw [Int.natCast_mul] at e
    exact e
  · have e : a < (((Float64.isqrt a.toNat + 1) * (Float64.isqrt a.toNat + 1) : Nat) : Int) := by omega
    rw [Int.natCast_mul, Int.natCast_add] at e
    exact e
theorem lg {b : Int} (h : Bd 8000 b) : b.natAbs.log2 < 9000 := by have := PySem.W.mg_log (k := 8000) (Nat.lt_trans h (Nat.pow_lt_pow_right (by decide) (by decide))); omega
def sp_quotient_up (T : Tx K mg) : Sp := fun vs H Q E => ∃ a b : Int, vs = [.int a, .int b] ∧ 0 < b ∧ Bd 8000 a ∧ Bd 8000 b ∧ Q (.int (-((-a) / b))) H
theorem ok_quotient_up (T : Tx K mg) : FnOk P w K mg base (L2.CX P w) 1 T.a_quotient_up T.d_quotient_up P_quotient_up (sp_quotient_up T) := by
  refine T.F_quotient_up.okX sc_quotient_up (fun vs H Q E h => ?_) (fun cdv A outer s H vs Q E hr h => ?_)
  · obtain ⟨a, b, rfl, _⟩ := h
    rfl
  · obtain ⟨a, b, rfl, b0, ha, hb, k⟩ := h
    refine ⟨_, (pss_one (ps_ret (pe_un un_neg (pe_op op_fdivW (pe_un un_neg (pv 0)) (pv 1))))), ?_⟩
    refine ⟨_, rfl, _, rfl, _, rfl, _, _, rfl, rfl, ⟨b0, lg hb⟩, _, rfl, k⟩
def sp_half_outline (T : Tx K mg) : Sp := fun vs H Q E => ∃ a : Int, vs = [.int a] ∧ 0 < a ∧ Bd 8000 a ∧ ∀ h : Int, Fewest.half a h → Q (.int h) H
theorem ok_half_outline (T : Tx K mg) : FnOk P w K mg base (L2.CX P w) 1 T.a_half_outline T.d_half_outline P_half_outline (sp_half_outline T) := by
  refine T.F_half_outline.okX sc_half_outline (fun vs H Q E h => ?_) (fun cdv A outer s H vs Q E hr h => ?_)
  · obtain ⟨a, rfl, _⟩ := h
    rfl
  · obtain ⟨a, rfl, a0, ha, k⟩ := h
    refine ⟨_, (pss_one (ps_ret (pe_op op_add (pe_callBfun cr_root (by rfl) T.mi_isqrt (pa_cons (pe_op op_sub (pe_op op_mul pe_int (pv 0)) pe_int) pa_nil)) pe_int))), ?_⟩
    have b4 : Bd 12000 (4 * a - 1) := ((Bd.mul (k := 3) (m := 8000) (by show (4 : Int).natAbs < 2 ^ 3; decide) ha).sub (Bd.one (k := 8003) (by decide))).mono (by decide)
    refine ⟨_, rfl, _, _, rfl, rfl, .inl ⟨by decide, by decide⟩, _, _, rfl, rfl, _, rfl, by omega, b4, fun r r0 h1 h2 => ?_⟩
    exact ⟨_, _, rfl, rfl, k _ (Fewest.half_of r0 h1 h2)⟩
theorem cmw {i j : Int} (h : Bd 8000 i) (g : Bd 8000 j) : CMulW i j := by have := lg h; have := lg g; unfold CMulW; omega
theorem ab_if (x : Int) : (if x < 0 then -x else x) = Fewest.ab x := by unfold Fewest.ab; split <;> omega
theorem Bd.ab {k : Nat} {x : Int} (h : Bd k x) : Bd k (Fewest.ab x) := by unfold Bd Fewest.ab at *; omega
def sp_fewest_steps (T : Tx K mg) : Sp := fun vs H Q E => ∃ (p : Addr) (x y a : Int), vs = [.ref p] ∧ PlAt T H p x y a ∧ Bd 3000 x ∧ Bd 3000 y ∧ Bd 3000 a ∧ ∀ n : Int, Fewest.St x y a n → Q (.int n) H
theorem ok_fewest_steps (T : Tx K mg) : FnOk P w K mg base (L2.CX P w) 2 T.a_fewest_steps T.d_fewest_steps P_fewest_steps (sp_fewest_steps T) := by
  have G_quotient_up : FnOk P w K mg base (L2.CX P w) 1 _ _ _ _ := ok_quotient_up T
  have G_half_outline : FnOk P w K mg base (L2.CX P w) 1 _ _ _ _ := ok_half_outline T
  refine T.F_fewest_steps.okX sc_fewest_steps (fun vs H Q E h => ?_) (fun cdv A outer s H vs Q E hr h => ?_)
  · obtain ⟨p, x, y, a, rfl, _⟩ := h
    rfl
  · obtain ⟨p, x, y, a, rfl, hp, bx, by', ba, k⟩ := h
    refine ⟨_, (pss_cons (ps_set (i := 1) sc_fewest_steps.nd rfl (.inl rfl) (pe_callB (call_max2 rfl) (by rfl) T.n_max (by decide +kernel) (pa_cons (pe_callB call_abs (by rfl) T.n_abs (by decide +kernel) (pa_cons (pe_fld (pv 0) rfl) pa_nil)) (pa_cons (pe_callB call_abs (by rfl) T.n_abs (by decide +kernel) (pa_cons (pe_fld (pv 0) rfl) pa_nil)) pa_nil))))
 (pss_cons (ps_set (i := 2) sc_fewest_steps.nd rfl (.inl rfl) (pe_callB (call_min2 rfl) (by rfl) T.n_min (by decide +kernel) (pa_cons (pe_callB call_abs (by rfl) T.n_abs (by decide +kernel) (pa_cons (pe_fld (pv 0) rfl) pa_nil)) (pa_cons (pe_callB call_abs (by rfl) T.n_abs (by decide +kernel) (pa_cons (pe_fld (pv 0) rfl) pa_nil)) pa_nil))))
 (pss_cons (ps_set (i := 3) sc_fewest_steps.nd rfl (.inl rfl) (pe_op op_fdivW (pe_op op_add (pe_callB call_abs (by rfl) T.n_abs (by decide +kernel) (pa_cons (pe_op op_sub (pe_op op_mul pe_int (pe_fld (pv 0) rfl)) (pe_op op_mulW (pe_fld (pv 0) rfl) (pe_fld (pv 0) rfl))) pa_nil)) (pe_op op_mulW (pv 1) (pv 2))) pe_int))
 (pss_cons (ps_if (pt_cmpR op_le (pv 3) (pe_op op_mulW (pv 1) (pv 2)) (nomark _))
 (pss_one (ps_ret (pe_op op_add (pv 1) (pv 2))))
 pss_nil)
 (pss_cons (ps_if (pt_cmpR op_le (pv 3) (pe_op op_mulW (pv 1) (pv 1)) (nomark _))
 (pss_one (ps_ret (pe_op op_sub (pe_op op_add (pe_op op_mul pe_int (pe_call G_quotient_up (hr.mono (by decide)) (by rfl) T.g_quotient_up T.F_quotient_up.kp T.b_quotient_up .nil passL (pa_cons (pv 3) (pa_cons (pv 1) pa_nil)))) (pv 1)) (pv 2))))
 pss_nil)
 (pss_one (ps_ret (pe_op op_sub (pe_op op_sub (pe_op op_mul pe_int (pe_call G_half_outline (hr.mono (by decide)) (by rfl) T.g_half_outline T.F_half_outline.kp T.b_half_outline .nil passL (pa_cons (pv 3) pa_nil))) (pv 1)) (pv 2))))))))), ?_⟩
    obtain ⟨dx, e⟩ := id hp
    refine ⟨_, rfl, p, _, dx, _, _, rfl, e, T.cl_Place, T.na_Place_x, rfl, _, rfl, _, rfl, p, _, dx, _, _, rfl, e, T.cl_Place, T.na_Place_y, rfl, _, rfl, _, _, rfl, ?_⟩
    refine ⟨_, rfl, p, _, dx, _, _, rfl, e, T.cl_Place, T.na_Place_x, rfl, _, rfl, _, rfl, p, _, dx, _, _, rfl, e, T.cl_Place, T.na_Place_y, rfl, _, rfl, _, _, rfl, ?_⟩
    rw [ab_if, ab_if]
    generalize hX : Fewest.ab x = X
    generalize hY : Fewest.ab y = Y
    obtain ⟨L, S, hL, hS, hLS⟩ : ∃ L S : Int, (if Y > X then Y else X) = L ∧ (if Y < X then Y else X) = S ∧ ((L = X ∧ S = Y ∧ Y ≤ X) ∨ (L = Y ∧ S = X ∧ X ≤ Y)) := by
      refine ⟨_, _, rfl, rfl, ?_⟩
      split <;> split <;> omega
    rw [hL, hS]
    have bX : Bd 3000 X := by rw [← hX]; exact bx.ab
    have bY : Bd 3000 Y := by rw [← hY]; exact by'.ab
    have bL : Bd 3000 L := by rcases hLS with ⟨e1, _⟩ | ⟨e1, _⟩ <;> rw [e1] <;> assumption
    have bS : Bd 3000 S := by rcases hLS with ⟨_, e1, _⟩ | ⟨_, e1, _⟩ <;> rw [e1] <;> assumption
    have mL : Bd 8000 L := bL.mono (by decide)
    have mS : Bd 8000 S := bS.mono (by decide)
    refine ⟨_, rfl, p, _, dx, _, _, rfl, e, T.cl_Place, T.na_Place_area, rfl, _, _, rfl, rfl, .inl ⟨by decide, by decide⟩, ?_⟩
    refine ⟨_, rfl, p, _, dx, _, _, rfl, e, T.cl_Place, T.na_Place_x, rfl, _, rfl, p, _, dx, _, _, rfl, e, T.cl_Place, T.na_Place_y, rfl, _, _, rfl, rfl, cmw (bx.mono (by decide)) (by'.mono (by decide)), ?_⟩
    refine ⟨_, _, rfl, rfl, _, rfl, _, rfl, _, rfl, _, _, rfl, rfl, cmw mL mS, _, _, rfl, rfl, _, _, rfl, rfl, ⟨by decide, by decide⟩, ?_⟩
    rw [ab_if]
    have bU : Bd 7000 (Fewest.ab (2 * a - x * y)) := (((Bd.mul (k := 2) (m := 3000) (by show (2 : Int).natAbs < 2 ^ 2; decide) ba).mono (show 2 + 3000 ≤ 6000 by decide)).sub (bx.mul by')).ab.mono (by decide)
    have U0 : 0 ≤ Fewest.ab (2 * a - x * y) := by unfold Fewest.ab; omega
    have par : (Fewest.ab (2 * a - x * y) + X * Y) % 2 = 0 := by
      have e1 : X * Y = Fewest.ab (x * y) := by rw [← hX, ← hY]; unfold Fewest.ab; rw [Int.natAbs_mul, Int.natCast_mul]
      rw [e1]
      unfold Fewest.ab
      omega
    have X0 : 0 ≤ X := by rw [← hX]; unfold Fewest.ab; omega
    have Y0 : 0 ≤ Y := by rw [← hY]; unfold Fewest.ab; omega
    have LSXY : L * S = X * Y := by
      rcases hLS with ⟨e1, e2, _⟩ | ⟨e1, e2, _⟩
      · rw [e1, e2]
      · rw [e1, e2, Int.mul_comm]
    have fin : ∀ n : Int, Fewest.Least L S (Fewest.ab (2 * a - x * y)) n → Q (.int n) H := fun n h => by
      refine k n ?_
      unfold Fewest.St
      rw [hX, hY]
      rcases hLS with ⟨e1, e2, _⟩ | ⟨e1, e2, _⟩
      · rw [e1, e2] at h; exact h
      · rw [e1, e2] at h; exact h.swap
    have hSL : S ≤ L ∧ 0 ≤ S := by omega
    generalize hU : Fewest.ab (2 * a - x * y) = U at bU U0 par fin ⊢
    obtain ⟨AA, hA⟩ : ∃ AA : Int, (U + L * S) / 2 = AA := ⟨_, rfl⟩
    have hA2 : 2 * AA = U + L * S := by rw [LSXY] at hA ⊢; omega
    have bA : Bd 8000 AA := by
      have b1 : Bd 7001 (U + L * S) := bU.add ((bL.mul bS).mono (by decide))
      have b2 : Bd 7001 AA := by unfold Bd at *; omega
      exact b2.mono (by decide)
    rw [show (fun i j : Int => V.int (i / j)) (U + L * S) 2 = V.int AA from congrArg V.int hA]
    refine ⟨_, rfl, _, rfl, _, rfl, _, _, rfl, rfl, cmw mL mS, _, _, rfl, rfl, _, rfl, ?_⟩
    refine ite2 (fun h1 => ?_) (fun h1 => ?_)
    · exact ⟨_, rfl, _, rfl, _, _, rfl, rfl, fin _ (Fewest.least1 hA2 (of_decide_eq_true h1))⟩
    · have h1 : L * S < AA := by have := of_decide_eq_false (Bool.eq_false_iff.mpr h1); omega
      refine ⟨_, rfl, _, rfl, _, rfl, _, _, rfl, rfl, cmw mL mL, _, _, rfl, rfl, _, rfl, ?_⟩
      have LS0 : 0 ≤ L * S := by rw [LSXY]; exact Int.mul_nonneg X0 Y0
      refine ite2 (fun h2 => ?_) (fun h2 => ?_)
      · have h2 := of_decide_eq_true h2
        have L0 : 0 < L := by
          rcases (show L = 0 ∨ 0 < L by omega) with z | z
          · subst z; omega
          · exact z
        refine ⟨_, rfl, _, rfl, AA, L, rfl, L0, bA, mL, _, _, rfl, rfl, .inl ⟨by decide, by decide⟩, _, rfl, _, _, rfl, rfl, _, rfl, _, _, rfl, rfl, fin _ (Fewest.least2 hSL.2 L0 hA2 h1 h2 (Fewest.up_ex L0).1 (Fewest.up_ex L0).2)⟩
      · have h2 : L * L < AA := by have := of_decide_eq_false (Bool.eq_false_iff.mpr h2); omega
        refine ⟨_, rfl, AA, rfl, by omega, bA, fun h hh => ?_⟩
        refine ⟨_, _, rfl, rfl, .inl ⟨by decide, by decide⟩, _, rfl, _, _, rfl, rfl, _, rfl, _, _, rfl, rfl, fin _ (Fewest.least3 hSL.2 hSL.1 hA2 h2 hh)⟩
end
end AW

set_option linter.all false
set_option maxRecDepth 100000
set_option maxHeartbeats 8000000
namespace AW
open PySem PySem.Spec PyProof.Rows L2
section
variable {P : Program} {w : World} {K : PySem.W.Frag} {mg : Str → Option Value} {base : Heap}
/-- the best box: a new pair -/
def sp_best_sides (T : Tx K mg) : Sp := fun vs H Q E => ∃ X Y s : Int, vs = [.int X, .int Y, .int s] ∧ ∀ t H', Same H H' → H' t = some (.tup [.int (Fewest.bestW X Y s), .int (X + Y + s - Fewest.bestW X Y s)]) → Q (.ref t) H'
theorem bestW_eq (X Y s : Int) : (if X + s < (if X > (X + Y + s) / 2 then X else (X + Y + s) / 2) then X + s else (if X > (X + Y + s) / 2 then X else (X + Y + s) / 2)) = Fewest.bestW X Y s := by
  unfold Fewest.bestW
  split <;> split <;> omega
theorem ok_best_sides (T : Tx K mg) : FnOk P w K mg base (L2.CX P w) 1 T.a_best_sides T.d_best_sides P_best_sides (sp_best_sides T) := by
  refine T.F_best_sides.okX sc_best_sides (fun vs H Q E h => ?_) (fun cdv A outer s H vs Q E hr h => ?_)
  · obtain ⟨X, Y, sp, rfl, _⟩ := h
    rfl
  · obtain ⟨X, Y, sp, rfl, k⟩ := h
    refine ⟨_, (pss_cons (ps_set (i := 3) sc_best_sides.nd rfl (.inl rfl) (pe_op op_add (pe_op op_add (pv 0) (pv 1)) (pv 2)))
 (pss_cons (ps_set (i := 4) sc_best_sides.nd rfl (.inl rfl) (pe_callB (call_min2 rfl) (by rfl) T.n_min (by decide +kernel) (pa_cons (pe_callB (call_max2 rfl) (by rfl) T.n_max (by decide +kernel) (pa_cons (pe_op op_fdivW (pv 3) pe_int) (pa_cons (pv 0) pa_nil))) (pa_cons (pe_op op_add (pv 0) (pv 2)) pa_nil))))
 (pss_one (ps_ret (pe_tup (pa_cons (pv 4) (pa_cons (pe_op op_sub (pv 3) (pv 4)) pa_nil))))))), ?_⟩
    refine ⟨_, rfl, _, rfl, _, _, rfl, rfl, _, rfl, _, _, rfl, rfl, ?_⟩
    refine ⟨_, rfl, _, _, rfl, rfl, ⟨by decide, by decide⟩, _, rfl, _, _, rfl, _, rfl, _, rfl, _, _, rfl, rfl, _, _, rfl, ?_⟩
    rw [bestW_eq]
    exact ⟨_, rfl, _, rfl, _, rfl, _, _, rfl, rfl, (by show 2 ≤ sizeLine; decide), fun t nt => k t _ (Same.laid nt) upd_same⟩
/-- the steps that are left for ways there and back, halved; None where there are none -/
def sp_spare_steps (T : Tx K mg) : Sp := fun vs H Q E => ∃ x y n : Int, vs = [.int x, .int y, .int n] ∧
  ((n < Fewest.ab x + Fewest.ab y ∨ (n - Fewest.ab x - Fewest.ab y) % 2 = 1) → Q .non H) ∧ (∀ s : Int, 0 ≤ s → n - Fewest.ab x - Fewest.ab y = 2 * s → Q (.int s) H)
theorem ok_spare_steps (T : Tx K mg) : FnOk P w K mg base (L2.CX P w) 1 T.a_spare_steps T.d_spare_steps P_spare_steps (sp_spare_steps T) := by
  refine T.F_spare_steps.okX sc_spare_steps (fun vs H Q E h => ?_) (fun cdv A outer s H vs Q E hr h => ?_)
  · obtain ⟨x, y, n, rfl, _⟩ := h
    rfl
  · obtain ⟨x, y, n, rfl, k1, k2⟩ := h
    refine ⟨_, (pss_cons (ps_set (i := 3) sc_spare_steps.nd rfl (.inl rfl) (pe_op op_sub (pe_op op_sub (pv 2) (pe_callB call_abs (by rfl) T.n_abs (by decide +kernel) (pa_cons (pv 0) pa_nil))) (pe_callB call_abs (by rfl) T.n_abs (by decide +kernel) (pa_cons (pv 1) pa_nil))))
 (pss_cons (ps_if (PW.pt (pw_or (pt_cmpR op_lt (pv 3) pe_int (nomark _)) (pw_or1 (pt_cmpR op_eq (pe_op op_andM (pv 3) pe_int) pe_int (nomark _)))))
 (pss_one (ps_ret pe_non))
 pss_nil)
 (pss_one (ps_ret (pe_op op_fdivW (pv 3) pe_int))))), ?_⟩
    refine ⟨_, rfl, _, rfl, _, rfl, _, _, rfl, rfl, _, rfl, _, rfl, _, _, rfl, rfl, ?_⟩
    rw [ab_if, ab_if]
    obtain ⟨m, hm⟩ : ∃ m : Int, n - Fewest.ab x - Fewest.ab y = m := ⟨_, rfl⟩
    rw [show (fun i j : Int => V.int (i - j)) (n - Fewest.ab x) (Fewest.ab y) = V.int m from congrArg V.int hm]
    rw [hm] at k1 k2
    refine ⟨_, rfl, _, _, rfl, rfl, _, rfl, ?_⟩
    refine ite2 (fun c => iteT (k1 (.inl (by have := of_decide_eq_true c; omega)))) (fun c => ?_)
    have c := of_decide_eq_false (Bool.eq_false_iff.mpr c)
    refine ⟨_, rfl, m, 1, rfl, congrArg V.int (by decide), rfl, _, rfl, ?_⟩
    have e2 : (2 : Int) ^ 1 = 2 := by decide
    rw [e2]
    refine ite2 (fun d => k1 (.inr ?_)) (fun d => ?_)
    · have := of_decide_eq_true d
      injection this
    · have d := of_decide_eq_false (Bool.eq_false_iff.mpr d)
      have d : m % 2 ≠ 1 := fun z => d (congrArg V.int z)
      exact ⟨_, rfl, _, _, rfl, rfl, ⟨by decide, by decide⟩, k2 _ (by omega) (by omega)⟩
/-- the least and the greatest area of walks of n steps to (x, y), or None -/
def sp_areas_of_walks (T : Tx K mg) : Sp := fun vs H Q E => ∃ x y n : Int, vs = [.int x, .int y, .int n] ∧ Bd 3000 x ∧ Bd 3000 y ∧ Bd 3000 n ∧
  ((n < Fewest.ab x + Fewest.ab y ∨ (n - Fewest.ab x - Fewest.ab y) % 2 = 1) → ∀ H', Same H H' → Q .non H') ∧
  (∀ s W : Int, 0 ≤ s → n - Fewest.ab x - Fewest.ab y = 2 * s → Fewest.bestW (Fewest.ab x) (Fewest.ab y) s = W → ∀ t H', Same H H' →
    H' t = some (.tup [.int (max 0 (x * y) - W * (Fewest.ab x + Fewest.ab y + s - W)), .int (W * (Fewest.ab x + Fewest.ab y + s - W) + min 0 (x * y))]) → Q (.ref t) H')
theorem ok_areas_of_walks (T : Tx K mg) : FnOk P w K mg base (L2.CX P w) 2 T.a_areas_of_walks T.d_areas_of_walks P_areas_of_walks (sp_areas_of_walks T) := by
  have G_spare_steps : FnOk P w K mg base (L2.CX P w) 1 _ _ _ _ := ok_spare_steps T
  have G_best_sides : FnOk P w K mg base (L2.CX P w) 1 _ _ _ _ := ok_best_sides T
  refine T.F_areas_of_walks.okX sc_areas_of_walks (fun vs H Q E h => ?_) (fun cdv A outer s H vs Q E hr h => ?_)
  · obtain ⟨x, y, n, rfl, _⟩ := h
    rfl
  · obtain ⟨x, y, n, rfl, bx, by', bn, k1, k2⟩ := h
    refine ⟨_, (pss_cons (ps_set (i := 3) sc_areas_of_walks.nd rfl (.inl rfl) (pe_call G_spare_steps (hr.mono (by decide)) (by rfl) T.g_spare_steps T.F_spare_steps.kp T.b_spare_steps .nil passL (pa_cons (pv 0) (pa_cons (pv 1) (pa_cons (pv 2) pa_nil)))))
 (pss_cons (ps_if (pt_cmp (pc_isN (pv 3)))
 (pss_one (ps_ret pe_non))
 pss_nil)
 (pss_cons (ps_asg (pe_call G_best_sides (hr.mono (by decide)) (by rfl) T.g_best_sides T.F_best_sides.kp T.b_best_sides .nil passL (pa_cons (pe_callB call_abs (by rfl) T.n_abs (by decide +kernel) (pa_cons (pv 0) pa_nil)) (pa_cons (pe_callB call_abs (by rfl) T.n_abs (by decide +kernel) (pa_cons (pv 1) pa_nil)) (pa_cons (pv 3) pa_nil)))) (pg_tup rfl (pgs_cons (pg_name (i := 4) sc_areas_of_walks.nd rfl (.inl rfl)) (pgs_cons (pg_name (i := 5) sc_areas_of_walks.nd rfl (.inl rfl)) pgs_nil))))
 (pss_one (ps_ret (pe_tup (pa_cons (pe_op op_sub (pe_callB (call_max2 rfl) (by rfl) T.n_max (by decide +kernel) (pa_cons pe_int (pa_cons (pe_op op_mulW (pv 0) (pv 1)) pa_nil))) (pe_op op_mulW (pv 4) (pv 5))) (pa_cons (pe_op op_add (pe_op op_mulW (pv 4) (pv 5)) (pe_callB (call_min2 rfl) (by rfl) T.n_min (by decide +kernel) (pa_cons pe_int (pa_cons (pe_op op_mulW (pv 0) (pv 1)) pa_nil)))) pa_nil)))))))), ?_⟩
    refine ⟨_, rfl, _, rfl, _, rfl, x, y, n, rfl, fun c => ?_, fun sp s0 hs => ?_⟩
    · exact ⟨_, rfl, _, rfl, iteT (k1 c H (Same.refl _))⟩
    · refine ⟨_, rfl, _, rfl, iteF ?_⟩
      refine ⟨_, rfl, _, rfl, _, rfl, _, rfl, _, rfl, _, _, _, rfl, ?_⟩
      rw [ab_if, ab_if]
      refine fun t H1 s1 e1 => ?_
      obtain ⟨W, hW⟩ : ∃ W, Fewest.bestW (Fewest.ab x) (Fewest.ab y) sp = W := ⟨_, rfl⟩
      rw [hW] at e1
      have X0 : 0 ≤ Fewest.ab x := by unfold Fewest.ab; omega
      have Y0 : 0 ≤ Fewest.ab y := by unfold Fewest.ab; omega
      have wi := Fewest.bestW_in X0 Y0 s0
      rw [hW] at wi
      have bX := bx.ab
      have bY := by'.ab
      have bs : Bd 3000 sp := by unfold Bd at *; omega
      have bW : Bd 3001 W := by
        have h := bX.add bs
        unfold Bd at *
        omega
      have bH : Bd 3001 (Fewest.ab x + Fewest.ab y + sp - W) := by
        have h := bY.add bs
        unfold Bd at *
        omega
      have mw := cmw (bW.mono (show 3001 ≤ 8000 by decide)) (bH.mono (show 3001 ≤ 8000 by decide))
      have mx := cmw (bx.mono (show 3000 ≤ 8000 by decide)) (by'.mono (show 3000 ≤ 8000 by decide))
      have em : (if x * y > 0 then x * y else 0) = max 0 (x * y) := by split <;> omega
      have en : (if x * y < 0 then x * y else 0) = min 0 (x * y) := by split <;> omega
      refine ⟨t, _, rfl, SqT.of e1, rfl, _, _, rfl, _, _, rfl, rfl, ?_⟩
      refine ⟨_, rfl, _, rfl, _, _, rfl, rfl, mx, _, _, rfl, _, rfl, _, rfl, _, _, rfl, rfl, mw, _, _, rfl, rfl, _, rfl, _, rfl, _, _, rfl, rfl, mw, _, rfl, _, rfl, _, _, rfl, rfl, mx, _, _, rfl, _, _, rfl, rfl, (by show 2 ≤ sizeLine; decide), fun t2 nt2 => ?_⟩
      rw [em, en]
      exact k2 sp W s0 hs hW t2 _ (Same.after s1 nt2) upd_same
end
end AW

set_option linter.all false
set_option maxRecDepth 100000
set_option maxHeartbeats 8000000
namespace AW
open PySem PySem.Spec PyProof.Rows L2 Fewest
variable [Tbs]
section
variable {P : Program} {w : World} {K : PySem.W.Frag} {mg : Str → Option Value} {base : Heap}
abbrev T3 := Int × Int × Int
abbrev plT (T : Tx K mg) (p : T3) : D := pl T p.1 p.2.1 p.2.2
noncomputable def stF (p : T3) : Int := (st_ex p.1 p.2.1 p.2.2).choose
theorem stF_st (p : T3) : St p.1 p.2.1 p.2.2 (stF p) := (st_ex p.1 p.2.1 p.2.2).choose_spec
theorem stF_eq {p : T3} {n : Int} (h : St p.1 p.2.1 p.2.2 n) : stF p = n := St.uniq (stF_st p) h
def pr_fewest_steps (T : Tx K mg) : Pr := fun ds B k e => ∃ p : T3, ds = [plT T p] ∧ Bd 3000 p.1 ∧ Bd 3000 p.2.1 ∧ Bd 3000 p.2.2 ∧ k (.int (stF p)) B
theorem okD_fewest_steps (T : Tx K mg) : FnOk P w K mg base (L2.CX P w) 2 T.a_fewest_steps T.d_fewest_steps P_fewest_steps (spD K (pr_fewest_steps T)) :=
  (ok_fewest_steps T).imp fun vs H Q E ⟨G, ds, B, k, e, hs, hr, ⟨p, ed, bx, by', ba, h⟩, hk, hx⟩ => by
    subst ed
    obtain ⟨v, _, rfl, rv, rfl⟩ := hr
    obtain ⟨a, rfl, hp⟩ := rv.pl
    exact ⟨a, p.1, p.2.1, p.2.2, rfl, hp.sub hs, bx, by', ba, fun m hm => by rw [← stF_eq hm]; exact hk _ _ _ _ _ h (Ext.refl hs) rfl⟩
def pr_steps (T : Tx K mg) : Pr := fun ds B k e => ∃ d, ds = [d] ∧ ((∃ p : T3, d = plT T p ∧ Bd 3000 p.1 ∧ Bd 3000 p.2.1 ∧ Bd 3000 p.2.2 ∧ k (.int (stF p)) B) ∨ (plainD d = true ∧ e T.C_BadPlace (some ((["value"] : List Str), [d])) B))
theorem okD_steps (T : Tx K mg) : FnOk P w K mg base (L2.CX P w) 4 T.a_steps T.d_steps P_steps (spD K (pr_steps T)) := by
  refine T.F_steps.okX sc_steps (spD_len fun ds B k e h => by obtain ⟨d, rfl, hk⟩ := h; rfl) (fun cdv A outer s H vs Q E hr h => ?_)
  have G_check_place : FnOk P w K mg base (L2.CX P w) _ _ _ _ _ := okD_check_place T
  have G_fewest_steps : FnOk P w K mg base (L2.CX P w) 2 _ _ _ _ := okD_fewest_steps T
  obtain ⟨G, ds, B, k, e, hs, hR, ⟨d, rfl, hk⟩, hK, hX⟩ := h
  refine ⟨_, (pss_cons (ps_expr (pe_call G_check_place (hr.mono (by decide)) (by rfl) T.g_check_place T.F_check_place.kp T.b_check_place .nil (passE (E := E)) (pa_cons (pv 0) pa_nil)))
 (pss_one (ps_ret (pe_call G_fewest_steps (hr.mono (by decide)) (by rfl) T.g_fewest_steps T.F_fewest_steps.kp T.b_fewest_steps .nil (passE (E := E)) (pa_cons (pv 0) pa_nil))))), run_body (ρ := [some d]) hs hR hK hX rfl ?_⟩
  rcases hk with ⟨p, rfl, b1, b2, b3, hk⟩ | ⟨pd, he⟩
  · refine ws_seq <| ws_drop <| we_callE <| wa_cons <| we_var rfl <| wa_nil ⟨_, rfl, .inl ⟨_, _, _, rfl, ?_⟩⟩
    exact ws_ret <| we_call <| wa_cons <| we_var rfl <| wa_nil ⟨p, rfl, b1, b2, b3, hk⟩
  · exact ws_seq <| ws_drop <| we_callE <| wa_cons <| we_var rfl <| wa_nil ⟨_, rfl, .inr ⟨pd, he⟩⟩
/-- the least and the greatest area of walks of n steps to (x, y) -/
def areaF (x y n : Int) : Option (Int × Int) :=
  if n < ab x + ab y ∨ (n - ab x - ab y) % 2 = 1 then none else
    some (max 0 (x * y) - bestW (ab x) (ab y) ((n - ab x - ab y) / 2) * (ab x + ab y + (n - ab x - ab y) / 2 - bestW (ab x) (ab y) ((n - ab x - ab y) / 2)), bestW (ab x) (ab y) ((n - ab x - ab y) / 2) * (ab x + ab y + (n - ab x - ab y) / 2 - bestW (ab x) (ab y) ((n - ab x - ab y) / 2)) + min 0 (x * y))
def areaD : Option (Int × Int) → D
  | none => .non
  | some (lo, hi) => .tup [.int lo, .int hi]
def pr_areas_of_walks (T : Tx K mg) : Pr := fun ds B k e => ∃ x y n : Int, ds = [.int x, .int y, .int n] ∧ Bd 3000 x ∧ Bd 3000 y ∧ Bd 3000 n ∧ k (areaD (areaF x y n)) B
theorem okD_areas_of_walks (T : Tx K mg) : FnOk P w K mg base (L2.CX P w) 2 T.a_areas_of_walks T.d_areas_of_walks P_areas_of_walks (spD K (pr_areas_of_walks T)) :=
  (ok_areas_of_walks T).imp fun vs H Q E ⟨G, ds, B, k, e, hs, hr, ⟨x, y, n, ed, bx, by', bn, h⟩, hk, hx⟩ => by
    subst ed
    obtain ⟨_, _, rfl, r1, _, _, rfl, r2, _, _, rfl, r3, rfl⟩ := hr
    rw [show _ = V.int x from r1, show _ = V.int y from r2, show _ = V.int n from r3]
    have hex : ∀ H', Same H H' → Ext G H B G H' B := fun H' s => ⟨Le.refl _ _, fun a o z => s _ _ (hs _ _ z), fun a o z m _ => ⟨s _ _ z, m⟩⟩
    refine ⟨x, y, n, rfl, bx, by', bn, fun c H' s => ?_, fun s W s0 es eW t H' sm ht => ?_⟩
    · unfold areaF at h
      rw [if_pos c] at h
      exact hk _ _ _ _ _ h (hex H' s) rfl
    · have nc : ¬ (n < ab x + ab y ∨ (n - ab x - ab y) % 2 = 1) := fun c => by
        have x0 : 0 ≤ ab x := by unfold ab; omega
        omega
      have e2 : (n - ab x - ab y) / 2 = s := by omega
      unfold areaF at h
      rw [if_neg nc, e2, eW] at h
      have eL := Ext.learn (B := B) (hex H' sm).sub ht
      exact hk _ _ _ _ _ h ((hex H' sm).trans eL) ⟨t, _, rfl, SqT.of upd_same, _, _, rfl, rfl, _, _, rfl, rfl, rfl⟩
theorem areaF_none {x y n : Int} (h : areaF x y n = none) (a : Int) : ¬ (stF (x, y, a) ≤ n ∧ (n - stF (x, y, a)) % 2 = 0) := by
  unfold areaF at h
  split at h
  · rename_i c; exact none_of (stF_st (x, y, a)) c
  · cases h
theorem areaF_some {x y n lo hi : Int} (h : areaF x y n = some (lo, hi)) : (∀ a, (lo ≤ a ∧ a ≤ hi) ↔ (stF (x, y, a) ≤ n ∧ (n - stF (x, y, a)) % 2 = 0)) ∧ lo + hi = x * y ∧ lo ≤ hi := by
  unfold areaF at h
  split at h
  · cases h
  · rename_i c
    obtain ⟨s, es⟩ : ∃ s, (n - ab x - ab y) / 2 = s := ⟨_, rfl⟩
    rw [es] at h
    obtain ⟨W, eW⟩ : ∃ W, bestW (ab x) (ab y) s = W := ⟨_, rfl⟩
    rw [eW] at h
    simp only [Option.some.injEq, Prod.mk.injEq] at h
    obtain ⟨e1, e2⟩ := h
    have hs : n - ab x - ab y = 2 * s := by omega
    have s0 : 0 ≤ s := by omega
    have X0 : 0 ≤ ab x := by unfold ab; omega
    have Y0 : 0 ≤ ab y := by unfold ab; omega
    have wi := bestW_in X0 Y0 s0
    rw [eW] at wi
    refine ⟨fun a => ?_, by rw [← e1, ← e2]; omega, ?_⟩
    · rw [← e1, ← e2]
      exact (areas_of (stF_st (x, y, a)) hs s0 eW).symm
    · have h1 : ab x * ab y ≤ W * (ab x + ab y + s - W) := Int.mul_le_mul wi.1 wi.2.2 Y0 (by omega)
      have h2 : ab x * ab y = ab (x * y) := by unfold ab; rw [Int.natAbs_mul]; push_cast; rfl
      rw [h2] at h1
      rw [← e1, ← e2]
      unfold ab at h1
      generalize W * (ab x + ab y + s - W) = V0 at h1 ⊢
      generalize x * y = v at h1 ⊢
      omega
end
end AW

set_option linter.all false
set_option maxRecDepth 100000
set_option maxHeartbeats 8000000
namespace AW
open PySem PySem.Spec PyProof.Rows L2 Fewest
variable [Tbs]
section
variable {P : Program} {w : World} {K : PySem.W.Frag} {mg : Str → Option Value} {base : Heap}
def dx (c : Str) : Int := if c = "e" then 1 else if c = "w" then -1 else 0
def dy (c : Str) : Int := if c = "n" then 1 else if c = "s" then -1 else 0
theorem chS_enws : chS "enws" = (["e", "n", "w", "s"] : List Str) := by decide +kernel
theorem mem_enws {c : Str} (h : c ∈ chS "enws") : c = "e" ∨ c = "n" ∨ c = "w" ∨ c = "s" := by
  rw [chS_enws] at h
  simpa using h
def mvS (c : Str) (p : T3) : T3 := (p.1 + dx c * 1, p.2.1 + dy c * 1, p.2.2 + 0 + p.1 * (dy c * 1))
abbrev k3 (p : T3) : List L2.Key := [.inl p.1, .inl p.2.1, .inl p.2.2]
abbrev kt3 (p : T3) : D := .kt (k3 p)
theorem k3_inj {p q : T3} (h : k3 p = k3 q) : p = q := by
  obtain ⟨a, b, c⟩ := p
  obtain ⟨x, y, z⟩ := q
  simp only [k3, List.cons.injEq, Sum.inl.injEq, and_true] at h
  obtain ⟨h1, h2, h3⟩ := h
  rw [h1, h2, h3]
theorem ktD (p : T3) : ([.int p.1, .int p.2.1, .int p.2.2] : List D) = (k3 p).map kD := rfl
theorem in_ew : (!(Builtin.Str.occurrences ("ew" : Str) ("e" : Str) 0 ("ew" : Str).length 1).isEmpty) = true ∧ (!(Builtin.Str.occurrences ("ew" : Str) ("w" : Str) 0 ("ew" : Str).length 1).isEmpty) = true ∧
    (!(Builtin.Str.occurrences ("ew" : Str) ("n" : Str) 0 ("ew" : Str).length 1).isEmpty) = false ∧ (!(Builtin.Str.occurrences ("ew" : Str) ("s" : Str) 0 ("ew" : Str).length 1).isEmpty) = false := by decide +kernel
theorem lt_ne : (decide (("e" : Str) = "e") = true ∧ decide (("w" : Str) = "e") = false ∧ decide (("n" : Str) = "n") = true ∧ decide (("s" : Str) = "n") = false) := by decide +kernel
theorem dxy : (dx "e" = 1 ∧ dy "e" = 0) ∧ (dx "w" = -1 ∧ dy "w" = 0) ∧ (dx "n" = 0 ∧ dy "n" = 1) ∧ (dx "s" = 0 ∧ dy "s" = -1) := by decide +kernel
theorem mv_e (p : T3) : mvS "e" p = (p.1 + 1, p.2.1, p.2.2) := by unfold mvS; rw [dxy.1.1, dxy.1.2]; simp
theorem mv_w (p : T3) : mvS "w" p = (p.1 + -1, p.2.1, p.2.2) := by unfold mvS; rw [dxy.2.1.1, dxy.2.1.2]; simp
theorem mv_n (p : T3) : mvS "n" p = (p.1, p.2.1 + 1, p.2.2 + p.1 * 1) := by unfold mvS; rw [dxy.2.2.1.1, dxy.2.2.1.2]; simp
theorem mv_s (p : T3) : mvS "s" p = (p.1, p.2.1 - 1, p.2.2 - p.1 * 1) := by unfold mvS; rw [dxy.2.2.2.1, dxy.2.2.2.2]; simp only [Int.add_zero, Int.zero_mul, Int.mul_one, Prod.mk.injEq, true_and]; omega
def pr_l_gone (T : Tx K mg) : Pr := fun ds B k e => ∃ (p : T3) (c : Str), ds = [kt3 p, .str c, .int 1] ∧ c ∈ chS "enws" ∧ Bd 3000 p.1 ∧ k (kt3 (mvS c p)) B
theorem okD_l_gone (T : Tx K mg) : FnOk P w K mg base (L2.CX P w) 1 T.a_l_gone T.d_l_gone P_l_gone (spD K (pr_l_gone T)) := by
  refine T.F_l_gone.okX sc_l_gone (spD_len fun ds B k e h => by obtain ⟨p, c, rfl, hc, hb, hk⟩ := h; rfl) (fun cdv A outer s H vs Q E hr h => ?_)
  obtain ⟨G, ds, B, k, e, hs, hR, ⟨p, c, rfl, hc, hb, hk⟩, hK, hX⟩ := h
  refine ⟨_, (pss_cons (ps_asg (pv 0) (pg_tup rfl (pgs_cons (pg_name (i := 3) sc_l_gone.nd rfl (.inl rfl)) (pgs_cons (pg_name (i := 4) sc_l_gone.nd rfl (.inl rfl)) (pgs_cons (pg_name (i := 5) sc_l_gone.nd rfl (.inl rfl)) pgs_nil)))))
 (pss_cons (ps_if (pt_cmpR op_in_str (pv 1) pe_str (by rfl))
 (pss_one (ps_ret (pe_tup (pa_cons (pe_op op_add (pv 3) (pe_ifExp (pt_cmpR op_eq (pv 1) pe_str (nomark _)) (pv 2) (pe_un un_neg (pv 2)))) (pa_cons (pv 4) (pa_cons (pv 5) pa_nil))))))
 pss_nil)
 (pss_cons (ps_if (pt_cmpR op_eq (pv 1) pe_str (nomark _))
 (pss_one (ps_ret (pe_tup (pa_cons (pv 3) (pa_cons (pe_op op_add (pv 4) (pv 2)) (pa_cons (pe_op op_add (pv 5) (pe_op op_mulW (pv 3) (pv 2))) pa_nil))))))
 pss_nil)
 (pss_one (ps_ret (pe_tup (pa_cons (pv 3) (pa_cons (pe_op op_sub (pv 4) (pv 2)) (pa_cons (pe_op op_sub (pv 5) (pe_op op_mulW (pv 3) (pv 2))) pa_nil))))))))), run_body (ρ := [some (kt3 p), some (.str c), some (.int 1), none, none, none]) hs hR hK hX rfl ?_⟩
  have cw : CMulW p.1 1 := cmw (hb.mono (by decide)) (by show 1 < 2 ^ 8000; exact Nat.one_lt_two_pow (by decide))
  have z3 : 3 ≤ sizeLine := by decide
  refine ws_seq <| ws_asg <| we_wk <| we_var rfl ⟨_, .kt _, wg_tup rfl <| wgs_cons <| wg_name <| wgs_cons <| wg_name <| wgs_cons <| wg_name <| wgs_nil ?_⟩
  rcases mem_enws hc with rfl | rfl | rfl | rfl
  · rw [mv_e] at hk
    refine ws_seq <| ws_if <| wt_test <| we_op <| we_var rfl <| we_str <| ro_inS ⟨_, rfl, fun _ => ?_, fun h => ?_⟩
    · exact ws_ret <| we_kt <| wa_cons <| we_op <| we_var rfl <| we_ifE <| wt_test <| we_op <| we_var rfl <| we_str <| ro_eqS ⟨_, rfl, fun _ => we_var rfl <| ro_i0 <| wa_cons <| we_var rfl <| wa_cons <| we_var rfl <| wa_nil ⟨k3 _, ktD (_, _, _), z3, hk⟩, fun h => absurd (lt_ne.1.symm.trans h) (by decide)⟩
    · exact absurd (in_ew.1.symm.trans h) (by decide)
  · rw [mv_n] at hk
    refine ws_seq <| ws_if <| wt_test <| we_op <| we_var rfl <| we_str <| ro_inS ⟨_, rfl, fun h => ?_, fun _ => ws_next ?_⟩
    · exact absurd (in_ew.2.2.1.symm.trans h) (by decide)
    refine ws_seq <| ws_if <| wt_test <| we_op <| we_var rfl <| we_str <| ro_eqS ⟨_, rfl, fun _ => ?_, fun h => ?_⟩
    · exact ws_ret <| we_kt <| wa_cons <| we_var rfl <| wa_cons <| we_op <| we_var rfl <| we_var rfl <| ro_i0 <| wa_cons <| we_op <| we_var rfl <| we_op <| we_var rfl <| we_var rfl <| ro_i cw <| ro_i0 <| wa_nil ⟨k3 (p.1, p.2.1 + 1, p.2.2 + p.1 * 1), rfl, z3, hk⟩
    · exact absurd (lt_ne.2.2.1.symm.trans h) (by decide)
  · rw [mv_w] at hk
    refine ws_seq <| ws_if <| wt_test <| we_op <| we_var rfl <| we_str <| ro_inS ⟨_, rfl, fun _ => ?_, fun h => ?_⟩
    · exact ws_ret <| we_kt <| wa_cons <| we_op <| we_var rfl <| we_ifE <| wt_test <| we_op <| we_var rfl <| we_str <| ro_eqS ⟨_, rfl, fun h => absurd (lt_ne.2.1.symm.trans h) (by decide), fun _ => we_neg <| we_var rfl ⟨_, rfl, ro_i0 <| wa_cons <| we_var rfl <| wa_cons <| we_var rfl <| wa_nil ⟨k3 _, ktD (_, _, _), z3, hk⟩⟩⟩
    · exact absurd (in_ew.2.1.symm.trans h) (by decide)
  · rw [mv_s] at hk
    refine ws_seq <| ws_if <| wt_test <| we_op <| we_var rfl <| we_str <| ro_inS ⟨_, rfl, fun h => ?_, fun _ => ws_next ?_⟩
    · exact absurd (in_ew.2.2.2.symm.trans h) (by decide)
    refine ws_seq <| ws_if <| wt_test <| we_op <| we_var rfl <| we_str <| ro_eqS ⟨_, rfl, fun h => ?_, fun _ => ws_next ?_⟩
    · exact absurd (lt_ne.2.2.2.symm.trans h) (by decide)
    · exact ws_ret <| we_kt <| wa_cons <| we_var rfl <| wa_cons <| we_op <| we_var rfl <| we_var rfl <| ro_i0 <| wa_cons <| we_op <| we_var rfl <| we_op <| we_var rfl <| we_var rfl <| ro_i cw <| ro_i0 <| wa_nil ⟨k3 (p.1, p.2.1 - 1, p.2.2 - p.1 * 1), rfl, z3, hk⟩
def pr_l_place (T : Tx K mg) : Pr := fun ds B k e => ∃ p : T3, ds = [kt3 p] ∧ k (plT T p) B
theorem okD_l_place (T : Tx K mg) : FnOk P w K mg base (L2.CX P w) 6 T.a_l_place T.d_l_place P_l_place (spD K (pr_l_place T)) := by
  refine T.F_l_place.okX sc_l_place (spD_len fun ds B k e h => by obtain ⟨p, rfl, hk⟩ := h; rfl) (fun cdv A outer s H vs Q E hr h => ?_)
  have G_Place_init : FnOk P w K mg base (L2.CX P w) _ _ _ _ _ := okD_Place_init T
  obtain ⟨G, ds, B, k, e, hs, hR, ⟨p, rfl, hk⟩, hK, hX⟩ := h
  refine ⟨_, (pss_one (ps_ret (pe_make T.M_Place G_Place_init (hr.mono (by decide)) (by rfl) T.g_C_Place T.b_Place_init .nil passL (pa_cons (pe_ix ix_tup (pv 0) pe_int (fun _ _ => rfl)) (pa_cons (pe_ix ix_tup (pv 0) pe_int (fun _ _ => rfl)) (pa_cons (pe_ix ix_tup (pv 0) pe_int (fun _ _ => rfl)) pa_nil)))))), run_body (ρ := [some (kt3 p)]) hs hR hK hX rfl ?_⟩
  exact ws_ret <| we_place T <| wa_cons <| we_op <| we_wk <| we_var rfl ⟨_, .kt _, we_int <| ro_ixT rfl <| wa_cons <| we_op <| we_wk <| we_var rfl ⟨_, .kt _, we_int <| ro_ixT rfl <| wa_cons <| we_op <| we_wk <| we_var rfl ⟨_, .kt _, we_int <| ro_ixT rfl <| wa_nil ⟨_, _, _, rfl, hk⟩⟩⟩⟩
abbrev tmS (p q : T3) : T3 := (p.1 + q.1, p.2.1 + q.2.1, p.2.2 + q.2.2 + p.1 * q.2.1)
def pr_l_times (T : Tx K mg) : Pr := fun ds B k e => ∃ p q : T3, ds = [kt3 p, kt3 q] ∧ CMulW p.1 q.2.1 ∧ k (kt3 (tmS p q)) B
theorem okD_l_times (T : Tx K mg) : FnOk P w K mg base (L2.CX P w) 1 T.a_l_times T.d_l_times P_l_times (spD K (pr_l_times T)) := by
  refine T.F_l_times.okX sc_l_times (spD_len fun ds B k e h => by obtain ⟨p, q, rfl, cw, hk⟩ := h; rfl) (fun cdv A outer s H vs Q E hr h => ?_)
  obtain ⟨G, ds, B, k, e, hs, hR, ⟨p, q, rfl, cw, hk⟩, hK, hX⟩ := h
  refine ⟨_, (pss_one (ps_ret (pe_tup (pa_cons (pe_op op_add (pe_ix ix_tup (pv 0) pe_int (fun _ _ => rfl)) (pe_ix ix_tup (pv 1) pe_int (fun _ _ => rfl))) (pa_cons (pe_op op_add (pe_ix ix_tup (pv 0) pe_int (fun _ _ => rfl)) (pe_ix ix_tup (pv 1) pe_int (fun _ _ => rfl))) (pa_cons (pe_op op_add (pe_op op_add (pe_ix ix_tup (pv 0) pe_int (fun _ _ => rfl)) (pe_ix ix_tup (pv 1) pe_int (fun _ _ => rfl))) (pe_op op_mulW (pe_ix ix_tup (pv 0) pe_int (fun _ _ => rfl)) (pe_ix ix_tup (pv 1) pe_int (fun _ _ => rfl)))) pa_nil)))))), run_body (ρ := [some (kt3 p), some (kt3 q)]) hs hR hK hX rfl ?_⟩
  have z3 : 3 ≤ sizeLine := by decide
  have gp : ∀ {E : XK} {e : EW} {B : Int} {k : KD} {ta : TE} {i : Int} {ρ : List (Option D)} {d : D} {r : T3}, (We K E e ta ρ B fun d' B' => d' = kt3 r ∧ B' = B) → atI ((k3 r).map kD) i = some d → k d B → We K E e (tOp (rIxT K) ta (tC (.int i))) ρ B k := fun h1 h2 h3 => we_op <| we_wk <| h1.imp fun d' B' ⟨e1, e2⟩ => by subst e1 e2; exact ⟨_, .kt _, we_int <| ro_ixT h2 h3⟩
  exact ws_ret <| we_kt <| wa_cons <| we_op <| gp (we_var rfl ⟨rfl, rfl⟩) rfl <| gp (we_var rfl ⟨rfl, rfl⟩) rfl <| ro_i0 <| wa_cons <| we_op <| gp (we_var rfl ⟨rfl, rfl⟩) rfl <| gp (we_var rfl ⟨rfl, rfl⟩) rfl <| ro_i0 <| wa_cons <| we_op <| we_op <| gp (we_var rfl ⟨rfl, rfl⟩) rfl <| gp (we_var rfl ⟨rfl, rfl⟩) rfl <| ro_i0 <| we_op <| gp (we_var rfl ⟨rfl, rfl⟩) rfl <| gp (we_var rfl ⟨rfl, rfl⟩) rfl <| ro_i cw <| ro_i0 <| wa_nil ⟨k3 _, ktD (_, _, _), z3, hk⟩
abbrev unS (p : T3) : T3 := (-p.1, -p.2.1, p.1 * p.2.1 - p.2.2)
def pr_l_undone (T : Tx K mg) : Pr := fun ds B k e => ∃ p : T3, ds = [kt3 p] ∧ CMulW p.1 p.2.1 ∧ k (kt3 (unS p)) B
theorem okD_l_undone (T : Tx K mg) : FnOk P w K mg base (L2.CX P w) 1 T.a_l_undone T.d_l_undone P_l_undone (spD K (pr_l_undone T)) := by
  refine T.F_l_undone.okX sc_l_undone (spD_len fun ds B k e h => by obtain ⟨p, rfl, cw, hk⟩ := h; rfl) (fun cdv A outer s H vs Q E hr h => ?_)
  obtain ⟨G, ds, B, k, e, hs, hR, ⟨p, rfl, cw, hk⟩, hK, hX⟩ := h
  refine ⟨_, (pss_one (ps_ret (pe_tup (pa_cons (pe_un un_neg (pe_ix ix_tup (pv 0) pe_int (fun _ _ => rfl))) (pa_cons (pe_un un_neg (pe_ix ix_tup (pv 0) pe_int (fun _ _ => rfl))) (pa_cons (pe_op op_sub (pe_op op_mulW (pe_ix ix_tup (pv 0) pe_int (fun _ _ => rfl)) (pe_ix ix_tup (pv 0) pe_int (fun _ _ => rfl))) (pe_ix ix_tup (pv 0) pe_int (fun _ _ => rfl))) pa_nil)))))), run_body (ρ := [some (kt3 p)]) hs hR hK hX rfl ?_⟩
  have z3 : 3 ≤ sizeLine := by decide
  have gp : ∀ {E : XK} {e : EW} {B : Int} {k : KD} {ta : TE} {i : Int} {ρ : List (Option D)} {d : D} {r : T3}, (We K E e ta ρ B fun d' B' => d' = kt3 r ∧ B' = B) → atI ((k3 r).map kD) i = some d → k d B → We K E e (tOp (rIxT K) ta (tC (.int i))) ρ B k := fun h1 h2 h3 => we_op <| we_wk <| h1.imp fun d' B' ⟨e1, e2⟩ => by subst e1 e2; exact ⟨_, .kt _, we_int <| ro_ixT h2 h3⟩
  exact ws_ret <| we_kt <| wa_cons <| we_neg <| gp (we_var rfl ⟨rfl, rfl⟩) rfl ⟨_, rfl, wa_cons <| we_neg <| gp (we_var rfl ⟨rfl, rfl⟩) rfl ⟨_, rfl, wa_cons <| we_op <| we_op <| gp (we_var rfl ⟨rfl, rfl⟩) rfl <| gp (we_var rfl ⟨rfl, rfl⟩) rfl <| ro_i cw <| gp (we_var rfl ⟨rfl, rfl⟩) rfl <| ro_i0 <| wa_nil ⟨k3 _, ktD (_, _, _), z3, hk⟩⟩⟩
abbrev penF : D := .pen "at" "left"
def pr_l_pen (T : Tx K mg) : Pr := fun ds B k e => ∃ ns : List Int, ds = [.scr ns] ∧ ns.length ≤ 63 ∧ 0 ≤ B ∧ k penF B
theorem okD_l_pen (T : Tx K mg) : FnOk P w K mg base (L2.CX P w) 1 T.a_l_pen T.d_l_pen P_l_pen (spD K (pr_l_pen T)) :=
  (ok_l_pen T).imp fun vs H Q E ⟨G, ds, B, k, e, hs, hr, ⟨ns, ed, hl, hB, h⟩, hk, hx⟩ => by
    subst ed
    obtain ⟨v, _, rfl, ⟨hT, a, rfl, hS⟩, rfl⟩ := hr
    refine ⟨a, ns, rfl, (Le.of_sub (B := B) (B' := B) hs (Int.le_refl _)).seqL hS, hl, fun p c H' ss np nc ne hp hc => ?_⟩
    have none_of : ∀ q, H q = none → G q = none := fun q z => by
      cases w : G q with
      | none => rfl
      | some u => rw [hs _ _ w] at z; cases z
    have le : Le G B (upd (upd G p (.dK (penE "at" "left" c 0 0))) c (.lst (ns.map V.int))) B := Le.of_sub (fun b o z => by rw [upd_ne (ne_of_none z (none_of c nc)), upd_ne (ne_of_none z (none_of p np))]; exact z) (Int.le_refl _)
    refine hk penF _ B (upd (upd G p (.dK (penE "at" "left" c 0 0))) c (.lst (ns.map V.int))) H' h ⟨le, fun b o z => ?_, fun b o z n _ => ?_⟩ ⟨le.tb hT, p, c, ns, 0, 0, rfl, by rw [upd_ne ne.symm, upd_same], upd_same, ⟨hl, fun _ h => absurd h (by decide)⟩, Int.le_refl _, hB⟩
    · by_cases h1 : b = c
      · subst h1; rw [upd_same] at z; cases z; exact hc
      · rw [upd_ne h1] at z
        by_cases h2 : b = p
        · subst h2; rw [upd_same] at z; cases z; exact hp
        · rw [upd_ne h2] at z; exact ss _ _ (hs _ _ z)
    · exact ⟨ss _ _ z, by rw [upd_ne (ne_of_none z nc), upd_ne (ne_of_none z np)]; exact n⟩
def pr_l_draw (T : Tx K mg) : Pr := fun ds B k e => ∃ n : Int, ds = [penF, .int n] ∧ 0 < n ∧ n < 1073741824 ∧ B ≤ 1000000 ∧ ∀ d, 0 ≤ d → d < n → k (.int d) (B + 1)
theorem okD_l_draw (T : Tx K mg) : FnOk P w K mg base (L2.CX P w) 1 T.a_l_draw T.d_l_draw P_l_draw (spD K (pr_l_draw T)) :=
  (ok_l_draw T).imp fun vs H Q E ⟨G, ds, B, k, e, hs, hr, ⟨n, ed, n0, n1, hB, h⟩, hk, hx⟩ => by
    subst ed
    obtain ⟨v, _, rfl, ⟨_, p, c, ns, s, r, rfl, gp, gc, hl, s0, s1⟩, u, _, rfl, ru, rfl⟩ := hr
    rw [show u = _ from ru]
    refine ⟨p, n, B, rfl, n0, n1, ⟨c, ns, s, r, hs _ _ gp, hs _ _ gc, hl.1, s0, s1⟩, hB, fun d H' hd bt hp => ?_⟩
    obtain ⟨c1, ns1, s', r', e1, e2, l1, b0, b1⟩ := hp.at_
    obtain ⟨s2, r2, e3⟩ := bt.cl c s r (hs _ _ gp)
    rw [e1] at e3
    have ec : c1 = c := by
      injection e3 with e3
      injection e3 with e3
      exact penD_inj e3
    subst ec
    have npc : c1 ≠ p := ne_of gc gp (by intro z; cases z)
    have nop : ∀ b o, G b = some o → ¬ IsPen o → b ≠ p := fun b o z n q => by
      subst q
      rw [gp] at z
      cases z
      exact n (.inl ⟨_, _, _, _, _, rfl⟩)
    refine hk (.int d) _ (B + 1) (upd G p (.dK (penD c1 s' r'))) H' (h d hd.1 hd.2) ⟨⟨by omega, fun b o z n => by rw [upd_ne (nop b o z n)]; exact z, fun b k l q x y z => ?_, fun hT z hz => ?_⟩, fun b o z => ?_, fun b o z n _ => ?_⟩ rfl
    · by_cases hb : b = p
      · subst hb
        rw [gp] at z
        injection z with z
        injection z with z
        unfold penE at z
        injection z with z1 z2
        injection z2 with z2 z3
        injection z3 with z3 z4
        injection z1 with _ z1
        injection z1 with z1
        injection z2 with z2 z5
        injection z2 with z2
        injection z3 with z3 z6
        injection z3 with z3
        subst z1 z2 z3
        exact ⟨s', r', upd_same, fun _ _ => ⟨b0, b1⟩⟩
      · exact ⟨x, y, by rw [upd_ne hb]; exact z, fun a b => ⟨a, by omega⟩⟩
    · obtain ⟨ps, h1, h2, h3⟩ := hT z hz
      refine ⟨ps, by rw [upd_ne (ne_of h1 gp (by intro z; cases z))]; exact h1, h2, fun pos cv hc => ?_⟩
      obtain ⟨c2, k1, k2⟩ := h3 pos cv hc
      exact ⟨c2, k1, by rw [upd_ne (ne_of k2 gp (by intro z; cases z))]; exact k2⟩
    · by_cases hb : b = p
      · subst hb; rw [upd_same] at z; cases z; exact e1
      · rw [upd_ne hb] at z; exact bt.st b o hb (hs _ _ z)
    · have hb : b ≠ p := fun q => by rw [q, gp] at n; cases n
      exact ⟨bt.st b o hb z, by rw [upd_ne hb]; exact n⟩
theorem bd0 {k : Nat} : Bd k 0 := Nat.pos_of_ne_zero (by have := Nat.one_le_two_pow (n := k); omega)
def pr_l_pick (T : Tx K mg) : Pr := fun ds B k e => ∃ d, ds = [penF, d] ∧ ((∃ xs : List D, d = .lst xs ∧ 0 < xs.length ∧ xs.length ≤ 1000000 ∧ B ≤ 1000000 ∧ ∀ d, d ∈ xs → k d (B + 1)) ∨ (∃ x : Str, d = .str x ∧ 0 < x.length ∧ x.length ≤ 1000000 ∧ B ≤ 1000000 ∧ ∀ c, c ∈ chS x → k (.str c) (B + 1)))
theorem okD_l_pick (T : Tx K mg) : FnOk P w K mg base (L2.CX P w) 2 T.a_l_pick T.d_l_pick P_l_pick (spD K (pr_l_pick T)) := by
  refine T.F_l_pick.okX sc_l_pick (spD_len fun ds B k e h => by obtain ⟨d, rfl, hk⟩ := h; rfl) (fun cdv A outer s H vs Q E hr h => ?_)
  have G_l_draw : FnOk P w K mg base (L2.CX P w) 1 _ _ _ _ := okD_l_draw T
  obtain ⟨G, ds, B, k, e, hs, hR, ⟨d, rfl, hk⟩, hK, hX⟩ := h
  refine ⟨_, (pss_one (ps_ret (pe_or2 (pe_ix ix_list (pv 1) (pe_call G_l_draw (hr.mono (by decide)) (by rfl) T.g_l_draw T.F_l_draw.kp T.b_l_draw .nil passL (pa_cons (pv 0) (pa_cons (pe_callB call_len_seq (by rfl) T.n_len (by decide +kernel) (pa_cons (pv 1) pa_nil)) pa_nil))) (fun _ _ => rfl)) (pe_ix ix_str (pv 1) (pe_call G_l_draw (hr.mono (by decide)) (by rfl) T.g_l_draw T.F_l_draw.kp T.b_l_draw .nil passL (pa_cons (pv 0) (pa_cons (pe_callB call_len_str (by rfl) T.n_len (by decide +kernel) (pa_cons (pv 1) pa_nil)) pa_nil))) (fun _ _ => rfl))))), run_body (ρ := [some penF, some d]) hs hR hK hX rfl ?_⟩
  rcases hk with ⟨xs, rfl, h0, h1, hB, hk⟩ | ⟨x, rfl, h0, h1, hB, hk⟩
  · refine ws_ret <| we_orL <| we_op <| we_var rfl <| we_call <| wa_cons <| we_var rfl <| wa_cons <| we_lenL <| wa_cons <| we_var rfl <| wa_nil ⟨_, rfl, wa_nil ⟨_, rfl, by omega, by omega, hB, fun d d0 d1 => ?_⟩⟩
    obtain ⟨j, rfl⟩ := Int.eq_ofNat_of_zero_le d0
    have hj : j < xs.length := by omega
    exact ro_ixL (atI_nat (List.getElem?_eq_getElem hj)) (hk _ (List.getElem_mem hj))
  · have zS : 1000000 < sizeLine := by decide
    refine ws_ret <| we_orR <| we_op <| we_var rfl <| we_call <| wa_cons <| we_var rfl <| wa_cons <| we_lenStr <| wa_cons <| we_var rfl <| wa_nil ⟨_, rfl, by omega, wa_nil ⟨_, rfl, by omega, by omega, hB, fun d d0 d1 => ?_⟩⟩
    obtain ⟨j, rfl⟩ := Int.eq_ofNat_of_zero_le d0
    have hj : j < x.cps.toList.length := by
      have : x.cps.toList.length = x.length := by simp [Str.length]
      omega
    refine ro_ixS (by omega) (atI_nat (List.getElem?_eq_getElem hj)) (hk _ ?_)
    unfold chS
    exact List.mem_map_of_mem (List.getElem_mem hj)
theorem fdiv7 {f : Int} (h0 : 7 ≤ f) (h1 : f ≤ 98) : 1 ≤ f.fdiv 7 ∧ f.fdiv 7 ≤ 14 := by
  rw [Int.fdiv_eq_ediv_of_nonneg _ (by decide)]
  omega
def pr_l_great (T : Tx K mg) : Pr := fun ds B k e => ∃ fg : Int, ds = [penF, .int fg] ∧ 7 ≤ fg ∧ fg ≤ 98 ∧ B ≤ 900000 ∧ ∀ (i : Int) B', 0 ≤ i → Bd 400 i → B' ≤ B + 16 → k (.int i) B'
theorem okD_l_great (T : Tx K mg) : FnOk P w K mg base (L2.CX P w) 3 T.a_l_great T.d_l_great P_l_great (spD K (pr_l_great T)) := by
  refine T.F_l_great.okX sc_l_great (spD_len fun ds B k e h => by obtain ⟨fg, rfl, g0, g1, hB, hk⟩ := h; rfl) (fun cdv A outer s H vs Q E hr h => ?_)
  have G_l_draw : FnOk P w K mg base (L2.CX P w) 1 _ _ _ _ := okD_l_draw T
  obtain ⟨G, ds, B, k, e, hs, hR, ⟨fg, rfl, g0, g1, hB, hk⟩, hK, hX⟩ := h
  refine ⟨_, (pss_cons (ps_set (i := 2) sc_l_great.nd rfl (.inl rfl) pe_int)
 (pss_cons (ps_for (passes_of rfl) rfl (pi_range1 (by rfl) T.n_range (pa_cons (pe_op op_add pe_int (pe_call G_l_draw (hr.mono (by decide)) (by rfl) T.g_l_draw T.F_l_draw.kp T.b_l_draw .nil passL (pa_cons (pv 0) (pa_cons (pe_op op_fdivG (pv 1) pe_int) pa_nil)))) pa_nil)) (pg_name (i := 3) sc_l_great.nd rfl (.inl rfl))
 (pss_one (ps_set (i := 2) sc_l_great.nd rfl (.inl rfl) (pe_op op_add (pe_op op_mulW (pv 2) (pe_op op_pow pe_int pe_int)) (pe_call G_l_draw (hr.mono (by decide)) (by rfl) T.g_l_draw T.F_l_draw.kp T.b_l_draw .nil passL (pa_cons (pv 0) (pa_cons (pe_op op_pow pe_int pe_int) pa_nil)))))))
 (pss_one (ps_ret (pv 2))))), run_body (ρ := [some penF, some (.int fg), none, none]) hs hR hK hX rfl ?_⟩
  have h7 := fdiv7 g0 g1
  refine ws_seq (ws_set (we_int ?_))
  refine ws_cut (fun ρ' B' => (∃ f o, ρ' = [some penF, some (.int fg), some (.int f), o] ∧ 0 ≤ f ∧ Bd 400 f) ∧ B' ≤ B + 16) ?_ ?_
  · refine ws_for_range1 (wa_cons (we_op (we_int (we_call (wa_cons (we_var rfl (wa_cons (we_op (we_var rfl (we_int (ro_i ⟨by decide +kernel, by decide +kernel⟩ (wa_nil ⟨_, rfl, by omega, by omega, by omega, fun d d0 d1 => ro_i0 (wa_nil ⟨_, rfl, by omega, by omega, fun i ρ' B' => (∃ f o, ρ' = [some penF, some (.int fg), some (.int f), o] ∧ 0 ≤ f ∧ Bd (25 * i) f) ∧ B' ≤ B + 1 + i, ⟨⟨_, _, rfl, Int.le_refl _, bd0⟩, by omega⟩, fun i ρ' B' hi hI => ?_, fun ρ' B' hI => ?_⟩)⟩))))))))))))
    · obtain ⟨⟨f, o, rfl, f0, bf⟩, hB'⟩ := hI
      have hi2 : i ≤ 13 := by omega
      refine wg_name ?_
      have bf2 : Bd 400 f := bf.mono (by omega)
      refine (ws_set (we_op (we_op (we_var rfl (we_op (we_int (we_int (ro_i ⟨by decide +kernel, by decide +kernel, by decide +kernel⟩ (ro_i (cmc (by apply Bd.mono; (repeat (first | assumption | exact Bd.lit 64 (by decide +kernel) | exact Bd.lit 2000 (by decide +kernel) | apply Bd.neg | apply Bd.fdiv | apply Bd.mul | apply Bd.add2 | apply Bd.sub2)); decide) (by apply Bd.mono; (repeat (first | assumption | exact Bd.lit 64 (by decide +kernel) | exact Bd.lit 2000 (by decide +kernel) | apply Bd.neg | apply Bd.fdiv | apply Bd.mul | apply Bd.add2 | apply Bd.sub2)); decide)) (we_call (wa_cons (we_var rfl (wa_cons (we_op (we_int (we_int (ro_i ⟨by decide +kernel, by decide +kernel, by decide +kernel⟩ (wa_nil ⟨_, rfl, by decide +kernel, by decide +kernel, by omega, fun c c0 c1 => (ro_i0 ?_)⟩))))))))))))))))))
      have e10 : (10 : Int) ^ (7 : Int).toNat = 10000000 := by decide
      rw [e10] at c1 ⊢
      refine ⟨⟨_, _, rfl, by omega, ?_⟩, by omega⟩
      unfold Bd at *
      have p : (2 : Nat) ^ (25 * (i + 1)) = 2 ^ (25 * i) * 33554432 := by rw [Nat.mul_add, Nat.pow_add]
      rw [p]
      omega
    · obtain ⟨⟨f, o, rfl, f0, bf⟩, hB'⟩ := hI
      exact ⟨⟨_, _, rfl, f0, bf.mono (by omega)⟩, by omega⟩
  rintro _ B9 ⟨⟨f, o, rfl, f0, bf⟩, hB9⟩
  exact ws_ret (we_var rfl (hk _ _ f0 bf hB9))
end
end AW

set_option linter.all false
set_option maxRecDepth 100000
set_option maxHeartbeats 8000000
namespace AW
open PySem PySem.Spec PyProof.Rows L2 Fewest
variable [Tbs]
section
variable {P : Program} {w : World} {K : PySem.W.Frag} {mg : Str → Option Value} {base : Heap}
theorem stF_home {p : T3} : stF p = 0 ↔ p = (0, 0, 0) := by
  rw [St.home (stF_st p)]
  obtain ⟨x, y, a⟩ := p
  simp
theorem stF_pos (p : T3) : 0 ≤ stF p := (stF_st p).pos
theorem stF_mv {p : T3} {c : Str} (hc : c ∈ chS "enws") : stF (mvS c p) = stF p + 1 ∨ stF (mvS c p) = stF p - 1 := by
  have h := stF_st p
  have g := stF_st (mvS c p)
  rcases mem_enws hc with rfl | rfl | rfl | rfl
  · rw [mv_e] at g ⊢; exact h.e g
  · rw [mv_n] at g ⊢
    simp only [Int.mul_one] at g ⊢
    exact h.n g
  · rw [mv_w] at g ⊢
    exact h.w (by rw [Int.sub_eq_add_neg]; exact g)
  · rw [mv_s] at g ⊢
    simp only [Int.mul_one] at g ⊢
    exact h.s g
theorem stF_near {p : T3} (h : stF p ≠ 0) : ∃ q, ∃ c ∈ chS "enws", mvS c q = p ∧ stF q = stF p - 1 := by
  have nz : ¬(p.1 = 0 ∧ p.2.1 = 0 ∧ p.2.2 = 0) := fun z => h ((stF_st p).home.mpr z)
  have hm : ∀ c : Str, (c = "e" ∨ c = "n" ∨ c = "w" ∨ c = "s") → c ∈ chS "enws" := fun c hc => by rw [chS_enws]; simpa using hc
  rcases (stF_st p).nearer nz (stF_st (p.1 + 1, p.2.1, p.2.2)) (stF_st (p.1 - 1, p.2.1, p.2.2)) (stF_st (p.1, p.2.1 + 1, p.2.2 + p.1)) (stF_st (p.1, p.2.1 - 1, p.2.2 - p.1)) with g | g | g | g
  · refine ⟨_, "w", hm _ (by simp), ?_, g⟩
    rw [mv_w]; simp only [Int.add_neg_cancel_right]
  · refine ⟨_, "e", hm _ (by simp), ?_, g⟩
    rw [mv_e]; simp only [Int.sub_add_cancel]
  · refine ⟨_, "s", hm _ (by simp), ?_, g⟩
    rw [mv_s]; simp only [Int.mul_one, Int.add_sub_cancel]
  · refine ⟨_, "n", hm _ (by simp), ?_, g⟩
    rw [mv_n]; simp only [Int.mul_one, Int.sub_add_cancel]
abbrev Tab := List (List L2.Key × Int)
def InK (l : Tab) (p : T3) : Prop := ∃ x ∈ l, x.1 = k3 p
structure MidA (m : Nat) (l : Tab) (Q : List T3) (N : Nat) : Prop where
  a1 : ∀ x ∈ l, ∃ p, x.1 = k3 p ∧ x.2 = stF p ∧ stF p ≤ m + 1
  a2 : ∀ p, stF p ≤ m → InK l p
  a3 : ∀ p ∈ Q, stF p = m + 1
  a4 : ∀ p, InK l p → stF p = m + 1 → p ∈ Q
  a5 : Q.length ≤ N
  a6 : l.length ≤ 2 * 4 ^ m + N
  a7 : (l.map (·.1)).Nodup
theorem MidA.add {m N : Nat} {l : Tab} {Q : List T3} {t : T3} (h : MidA m l Q N) (hn : ∀ x ∈ l, x.1 ≠ k3 t) (ht : stF t ≤ m + 1) : stF t = m + 1 ∧ MidA m (l ++ [(k3 t, (0 + (m : Int)) + 1)]) (Q ++ [t]) (N + 1) := by
  have e : stF t = m + 1 := by
    by_cases q : stF t ≤ m
    · obtain ⟨x, hx, ex⟩ := h.a2 t q
      exact absurd ex (hn x hx)
    · omega
  refine ⟨e, fun x hx => ?_, fun p hp => ?_, fun p hp => ?_, fun p ⟨x, hx, ex⟩ hp => ?_, ?_, ?_, ?_⟩
  · rcases List.mem_append.mp hx with hx | hx
    · exact h.a1 x hx
    · rw [List.mem_singleton] at hx
      subst hx
      exact ⟨t, rfl, by rw [e]; show 0 + (m : Int) + 1 = _; omega, by omega⟩
  · obtain ⟨x, hx, ex⟩ := h.a2 p hp
    exact ⟨x, List.mem_append_left _ hx, ex⟩
  · rcases List.mem_append.mp hp with hp | hp
    · exact h.a3 p hp
    · rw [List.mem_singleton.mp hp]; exact e
  · rcases List.mem_append.mp hx with hx | hx
    · exact List.mem_append_left _ (h.a4 p ⟨x, hx, ex⟩ hp)
    · rw [List.mem_singleton] at hx
      subst hx
      rw [k3_inj ex]
      exact List.mem_append_right _ (List.mem_singleton.mpr rfl)
  · rw [List.length_append, List.length_singleton]; have := h.a5; omega
  · rw [List.length_append, List.length_singleton]; have := h.a6; omega
  · rw [List.map_append]
    refine List.nodup_append.mpr ⟨h.a7, List.nodup_cons.mpr ⟨fun h => (nomatch h), List.nodup_nil⟩, fun a ha b hb e2 => ?_⟩
    obtain ⟨x, hx, rfl⟩ := List.mem_map.mp ha
    have eb : b = k3 t := List.mem_singleton.mp hb
    exact hn x hx (e2.trans eb)
theorem MidA.up {m N : Nat} {l : Tab} {Q : List T3} (h : MidA m l Q N) : MidA m l Q (N + 1) := ⟨h.a1, h.a2, h.a3, h.a4, by have := h.a5; omega, by have := h.a6; omega, h.a7⟩
end
end AW

set_option linter.all false
set_option maxRecDepth 100000
set_option maxHeartbeats 8000000
namespace AW
open PySem PySem.Spec PyProof.Rows L2 Fewest
variable [Tbs]
section
variable {P : Program} {w : World} {K : PySem.W.Frag} {mg : Str → Option Value} {base : Heap}
end
end AW

set_option linter.all false
set_option maxRecDepth 100000
set_option maxHeartbeats 8000000
namespace AW
open PySem PySem.Spec PyProof.Rows L2 Fewest
variable [Tbs]
section
theorem stF_sq {p : T3} {n : Int} (h : stF p ≤ n) : ab p.1 + ab p.2.1 ≤ n ∧ ab p.2.2 ≤ n * n := by
  have hs := stF_st p
  obtain ⟨a, b, ⟨h1, h2, h3⟩, h4⟩ := Least.has hs
  obtain ⟨x, y, z⟩ := p
  have x0 : 0 ≤ ab x := by unfold ab; omega
  have y0 : 0 ≤ ab y := by unfold ab; omega
  have h1 : ab x ≤ a := h1
  have h2 : ab y ≤ b := h2
  have h3 : ab (2 * z - x * y) + ab x * ab y ≤ 2 * (a * b) := h3
  have h4 : stF (x, y, z) = 2 * (a + b) - ab x - ab y := h4
  have g4 : ab (x * y) = ab x * ab y := by
    have : ∀ i : Int, ab i = (i.natAbs : Int) := fun i => by unfold ab; omega
    rw [this, this, this, Int.natAbs_mul]; push_cast; rfl
  have hz : ab z ≤ a * b := by
    rw [← g4] at h3
    generalize x * y = v at h3
    generalize a * b = c at h3 ⊢
    unfold ab at h3 ⊢
    omega
  have hab : a * b ≤ n * n := Int.mul_le_mul (by omega) (by omega) (by omega) (by omega)
  exact ⟨by show ab x + ab y ≤ n; omega, Int.le_trans hz hab⟩
/-- the areas of places that are just n steps off -/
def newF (x y n : Int) : List Int := match areaF x y n with
  | none => []
  | some (lo, hi) => match areaF x y (n - 2) with
    | none => rgI lo (hi + 1)
    | some (lo2, hi2) => rgI lo lo2 ++ rgI (hi2 + 1) (hi + 1)
theorem par_iff {s n : Int} : s = n ↔ (s ≤ n ∧ (n - s) % 2 = 0) ∧ ¬ (s ≤ n - 2 ∧ (n - 2 - s) % 2 = 0) := by omega
theorem newF_mem {x y n a : Int} : a ∈ newF x y n ↔ stF (x, y, a) = n := by
  rw [par_iff]
  unfold newF
  cases h : areaF x y n with
  | none =>
    have := areaF_none h a
    exact ⟨fun z => (nomatch z), fun z => absurd z.1 this⟩
  | some p =>
    obtain ⟨lo, hi⟩ := p
    obtain ⟨h1, _, _⟩ := areaF_some h
    rw [← h1 a]
    cases h' : areaF x y (n - 2) with
    | none =>
      have := areaF_none h' a
      show a ∈ rgI lo (hi + 1) ↔ _
      rw [rgI_mem]
      exact ⟨fun z => ⟨by omega, this⟩, fun z => by have := z.1; omega⟩
    | some q =>
      obtain ⟨lo2, hi2⟩ := q
      obtain ⟨g1, _, g3⟩ := areaF_some h'
      show a ∈ rgI lo lo2 ++ rgI (hi2 + 1) (hi + 1) ↔ _
      have k1 := (g1 lo2).mp ⟨Int.le_refl _, g3⟩
      have k2 := (g1 hi2).mp ⟨g3, Int.le_refl _⟩
      have m1 := (h1 lo2).mpr (by omega)
      have m2 := (h1 hi2).mpr (by omega)
      rw [List.mem_append, rgI_mem, rgI_mem, ← g1 a]
      omega
theorem rgI_len (a b : Int) : (rgI a b).length = (b - a).toNat := by unfold rgI; rw [List.length_map, List.length_range]
theorem areaF_sm {x y n lo hi : Int} (h0 : 0 ≤ n) (h : n ≤ 20) (hA : areaF x y n = some (lo, hi)) : -400 ≤ lo ∧ lo ≤ hi ∧ hi ≤ 400 := by
  obtain ⟨h1, _, h3⟩ := areaF_some hA
  have k1 := (stF_sq (p := (x, y, lo)) ((h1 lo).mp ⟨Int.le_refl _, h3⟩).1).2
  have k2 := (stF_sq (p := (x, y, hi)) ((h1 hi).mp ⟨h3, Int.le_refl _⟩).1).2
  have h2 : n * n ≤ 20 * 20 := Int.mul_le_mul h h h0 (by decide)
  have k1 : ab lo ≤ n * n := k1
  have k2 : ab hi ≤ n * n := k2
  generalize n * n = m at *
  unfold ab at k1 k2
  omega
theorem areaF_in {x y n lo hi lo2 hi2 : Int} (hA : areaF x y n = some (lo, hi)) (hB : areaF x y (n - 2) = some (lo2, hi2)) : lo ≤ lo2 ∧ lo2 ≤ hi2 ∧ hi2 ≤ hi := by
  obtain ⟨h1, _, _⟩ := areaF_some hA
  obtain ⟨g1, _, g3⟩ := areaF_some hB
  have k1 := (g1 lo2).mp ⟨Int.le_refl _, g3⟩
  have k2 := (g1 hi2).mp ⟨g3, Int.le_refl _⟩
  have m1 := (h1 lo2).mpr (by omega)
  have m2 := (h1 hi2).mpr (by omega)
  omega
theorem newF_len {x y n : Int} (h0 : 0 ≤ n) (h : n ≤ 20) : (newF x y n).length ≤ 801 := by
  unfold newF
  cases hA : areaF x y n with
  | none => exact Nat.zero_le _
  | some p =>
    obtain ⟨lo, hi⟩ := p
    have := areaF_sm h0 h hA
    cases hB : areaF x y (n - 2) with
    | none => show (rgI lo (hi + 1)).length ≤ _; rw [rgI_len]; omega
    | some q =>
      obtain ⟨lo2, hi2⟩ := q
      have := areaF_in hA hB
      show (rgI lo lo2 ++ rgI (hi2 + 1) (hi + 1)).length ≤ _
      rw [List.length_append, rgI_len, rgI_len]; omega
def SPy (n x : Int) : List T3 := (rgI (ab x - n) (n - ab x + 1)).flatMap fun y => (newF x y n).map fun a => (x, y, a)
def SP (n : Int) : List T3 := (rgI (-n) (n + 1)).flatMap (SPy n)
theorem SP_mem {n : Int} {p : T3} : p ∈ SP n ↔ stF p = n := by
  obtain ⟨x, y, z⟩ := p
  unfold SP SPy
  simp only [List.mem_flatMap, List.mem_map, Prod.mk.injEq]
  constructor
  · rintro ⟨x', hx, y', hy, a, ha, rfl, rfl, rfl⟩
    exact newF_mem.mp ha
  · intro h
    have := (stF_sq (p := (x, y, z)) (Int.le_of_eq h)).1
    have this : ab x + ab y ≤ n := this
    have y0 : 0 ≤ ab y := by unfold ab; omega
    refine ⟨x, by rw [rgI_mem]; unfold ab at this y0; omega, y, by rw [rgI_mem]; unfold ab at this ⊢; omega, z, newF_mem.mpr h, rfl, rfl, rfl⟩
end
end AW

set_option linter.all false
set_option maxRecDepth 100000
set_option maxHeartbeats 8000000
namespace AW
open PySem PySem.Spec PyProof.Rows L2 Fewest
variable [Tbs]
theorem flat_len {α β : Type} {f : α → List β} {c : Nat} : ∀ {L : List α}, (∀ a ∈ L, (f a).length ≤ c) → (L.flatMap f).length ≤ L.length * c
  | [], _ => Nat.zero_le _
  | a :: r, h => by
    rw [List.flatMap_cons, List.length_append, List.length_cons, Nat.succ_mul]
    have := flat_len (L := r) fun b hb => h b (List.mem_cons_of_mem _ hb)
    have := h a (List.mem_cons_self ..)
    omega
theorem rgI_get {a b : Int} {i : Nat} (h : i < (b - a).toNat) : (rgI a b)[i]? = some (a + i) := by
  unfold rgI
  rw [List.getElem?_map, List.getElem?_range h]
  rfl
theorem take_flat {α β : Type} {f : α → List β} {L : List α} {i : Nat} {a : α} (h : L[i]? = some a) : (L.take (i + 1)).flatMap f = (L.take i).flatMap f ++ f a := by
  rw [List.take_add_one, h, Option.toList_some, List.flatMap_append]
  simp
section
variable {P : Program} {w : World} {K : PySem.W.Frag} {mg : Str → Option Value} {base : Heap}
theorem ok_TooFar_init (T : Tx K mg) : FnOk P w K mg base (L2.CX P w) 1 T.a_TooFar_init T.d_TooFar_init P_TooFar_init (sp_einit T.C_TooFar "number") := by
  refine T.F_TooFar_init.okX sc_TooFar_init (fun vs H Q E h => ?_) (fun cdv A outer s H vs Q E hr h => ?_)
  · obtain ⟨a, v, rfl, _⟩ := h
    rfl
  · obtain ⟨a, v, rfl, ha, k⟩ := h
    refine ⟨_, pss_one (ps_ost (pv 0) (pv 1)), ?_⟩
    exact ⟨_, rfl, _, rfl, a, T.C_TooFar, rfl, T.X_TooFar, T.na_TooFar_number, .inl ⟨ha, fun dx hd ne => k dx hd ne⟩⟩
def pr_check_near (T : Tx K mg) : Pr := fun ds B k e => ∃ n : Int, ds = [.int n] ∧ ((n ≤ 20 ∧ k .non B) ∨ (20 < n ∧ e T.C_TooFar (some ((["number"] : List Str), [.int n])) B))
theorem okD_check_near (T : Tx K mg) : FnOk P w K mg base (L2.CX P w) 3 T.a_check_near T.d_check_near P_check_near (spD K (pr_check_near T)) := by
  refine T.F_check_near.okX sc_check_near (spD_len fun ds B k e h => by obtain ⟨n, rfl, hk⟩ := h; rfl) (fun cdv A outer s H vs Q E hr h => ?_)
  have G_TooFar_init : FnOk P w K mg base (L2.CX P w) 1 _ _ _ _ := ok_TooFar_init T
  obtain ⟨G, ds, B, k, e, hs, hR, ⟨n, rfl, hk⟩, hK, hX⟩ := h
  refine ⟨_, (pss_one (ps_if (pt_cmpR op_gt (pv 0) (pe_glob (v := .int 20) (by rfl) T.gc_MOST_STEPS ⟨_, rfl⟩) (nomark _))
 (pss_one (ps_raise rfl (takes_of rfl rfl rfl rfl) (pmk_oex T.X_TooFar T.ei_TooFar T.et_TooFar G_TooFar_init (hr.mono (by decide)) T.b_TooFar_init .nil passL rfl T.g_C_TooFar (by exact (pa_cons (pv 0) pa_nil)))))
 pss_nil)), run_body (ρ := [some (.int n)]) hs hR hK hX rfl ?_⟩
  rcases hk with ⟨h, hk⟩ | ⟨h, he⟩
  · exact ws_if <| wt_test <| we_op <| we_var rfl <| we_int <| ro_b0 ⟨_, rfl, fun z => absurd (of_decide_eq_true z) (by omega), fun _ => ws_next hk⟩
  · exact ws_if <| wt_test <| we_op <| we_var rfl <| we_int <| ro_b0 ⟨_, rfl, fun _ => ws_raise1 (wa_cons (we_var rfl (wa_nil ⟨_, rfl, he⟩))), fun z => absurd h (of_decide_eq_false z)⟩
def pr_new_areas (T : Tx K mg) : Pr := fun ds B k e => ∃ x y n : Int, ds = [.int x, .int y, .int n] ∧ 0 ≤ n ∧ n ≤ 20 ∧ Bd 100 x ∧ Bd 100 y ∧ k (.lst ((newF x y n).map D.int)) B
theorem okD_new_areas (T : Tx K mg) : FnOk P w K mg base (L2.CX P w) 3 T.a_new_areas T.d_new_areas P_new_areas (spD K (pr_new_areas T)) := by
  refine T.F_new_areas.okX sc_new_areas (spD_len fun ds B k e h => by obtain ⟨x, y, n, rfl, n0, n20, bx, by', hk⟩ := h; rfl) (fun cdv A outer s H vs Q E hr h => ?_)
  have G_areas_of_walks : FnOk P w K mg base (L2.CX P w) 2 _ _ _ _ := okD_areas_of_walks T
  obtain ⟨G, ds, B, k, e, hs, hR, ⟨x, y, n, rfl, n0, n20, bx, by', hk⟩, hK, hX⟩ := h
  refine ⟨_, (pss_cons (ps_set (i := 3) sc_new_areas.nd rfl (.inl rfl) (pe_call G_areas_of_walks (hr.mono (by decide)) (by rfl) T.g_areas_of_walks T.F_areas_of_walks.kp T.b_areas_of_walks .nil passL (pa_cons (pv 0) (pa_cons (pv 1) (pa_cons (pv 2) pa_nil)))))
 (pss_cons (ps_if (pt_cmp (pc_isN (pv 3)))
 (pss_one (ps_ret (pe_lst pa_nil)))
 pss_nil)
 (pss_cons (ps_asg (pv 3) (pg_tup rfl (pgs_cons (pg_name (i := 4) sc_new_areas.nd rfl (.inl rfl)) (pgs_cons (pg_name (i := 5) sc_new_areas.nd rfl (.inl rfl)) pgs_nil))))
 (pss_cons (ps_set (i := 6) sc_new_areas.nd rfl (.inl rfl) (pe_call G_areas_of_walks (hr.mono (by decide)) (by rfl) T.g_areas_of_walks T.F_areas_of_walks.kp T.b_areas_of_walks .nil passL (pa_cons (pv 0) (pa_cons (pv 1) (pa_cons (pe_op op_sub (pv 2) pe_int) pa_nil)))))
 (pss_cons (ps_if (pt_cmp (pc_isN (pv 6)))
 (pss_one (ps_ret (pe_listRg (by rfl) (by rfl) T.n_list (prg_2 (by rfl) T.n_range (pv 4) (pe_op op_add (pv 5) pe_int)))))
 pss_nil)
 (pss_one (ps_ret (pe_op op_cat (pe_listRg (by rfl) (by rfl) T.n_list (prg_2 (by rfl) T.n_range (pv 4) (pe_ix ix_tup (pv 6) pe_int (fun _ _ => rfl)))) (pe_listRg (by rfl) (by rfl) T.n_list (prg_2 (by rfl) T.n_range (pe_op op_add (pe_ix ix_tup (pv 6) pe_int (fun _ _ => rfl)) pe_int) (pe_op op_add (pv 5) pe_int))))))))))), run_body (ρ := [some (.int x), some (.int y), some (.int n), none, none, none, none]) hs hR hK hX rfl ?_⟩
  have bn : Bd 100 n := Nat.lt_of_lt_of_le (show n.natAbs < 32 by omega) (by decide)
  have bn2 : Bd 100 (n - 2) := Nat.lt_of_lt_of_le (show (n - 2).natAbs < 32 by omega) (by decide)
  refine ws_seq <| ws_set <| we_call <| wa_cons <| we_var rfl <| wa_cons <| we_var rfl <| wa_cons <| we_var rfl <| wa_nil ⟨x, y, n, rfl, bx.mono (by decide), by'.mono (by decide), bn.mono (by decide), ?_⟩
  cases hA : areaF x y n with
  | none =>
    have e : newF x y n = [] := by simp only [newF, hA]
    rw [e] at hk
    exact ws_seq <| ws_if <| wt_val <| we_isN <| we_var rfl ⟨_, rfl, fun _ => ws_ret <| we_lst <| wa_nil ⟨Nat.le_of_ble_eq_true rfl, hk⟩, fun h => nomatch h⟩
  | some p =>
    obtain ⟨lo, hi⟩ := p
    have sA := areaF_sm n0 n20 hA
    refine ws_seq <| ws_if <| wt_val <| we_isN <| we_var rfl ⟨_, rfl, (fun h => nomatch h), fun _ => ws_next ?_⟩
    refine ws_seq <| ws_asg <| we_var rfl <| wg_tup rfl <| wgs_cons <| wg_name <| wgs_cons <| wg_name <| wgs_nil ?_
    refine ws_seq <| ws_set <| we_call <| wa_cons <| we_var rfl <| wa_cons <| we_var rfl <| wa_cons <| we_op <| we_var rfl <| we_int <| ro_i0 <| wa_nil ⟨x, y, n - 2, rfl, bx.mono (by decide), by'.mono (by decide), bn2.mono (by decide), ?_⟩
    cases hB : areaF x y (n - 2) with
    | none =>
      have e : newF x y n = rgI lo (hi + 1) := by simp only [newF, hA, hB]
      rw [e] at hk
      exact ws_seq <| ws_if <| wt_val <| we_isN <| we_var rfl ⟨_, rfl, fun _ => ws_ret <| we_listRg2 <| we_var rfl <| we_op <| we_var rfl <| we_int <| ro_i0 ⟨lo, hi + 1, rfl, rfl, ⟨by omega, by omega, by omega, by omega, by omega⟩, hk⟩, fun h => nomatch h⟩
    | some q =>
      obtain ⟨lo2, hi2⟩ := q
      have e : newF x y n = rgI lo lo2 ++ rgI (hi2 + 1) (hi + 1) := by simp only [newF, hA, hB]
      have sB := areaF_in hA hB
      rw [e, List.map_append] at hk
      refine ws_seq <| ws_if <| wt_val <| we_isN <| we_var rfl ⟨_, rfl, (fun h => nomatch h), fun _ => ws_next ?_⟩
      refine ws_ret <| we_op <| we_listRg2 <| we_var rfl <| we_op <| we_var rfl <| we_int <| ro_ixT (show atI [D.int lo2, D.int hi2] 0 = some (.int lo2) from rfl) ⟨lo, lo2, rfl, rfl, ⟨by omega, by omega, by omega, by omega, by omega⟩, ?_⟩
      refine we_listRg2 <| we_op <| we_op <| we_var rfl <| we_int <| ro_ixT (show atI [D.int lo2, D.int hi2] 1 = some (.int hi2) from rfl) <| we_int <| ro_i0 <| we_op <| we_var rfl <| we_int <| ro_i0 ⟨hi2 + 1, hi + 1, rfl, rfl, ⟨by omega, by omega, by omega, by omega, by omega⟩, ro_catL ?_ hk⟩
      rw [List.length_map, List.length_map, rgI_len, rgI_len]
      show _ ≤ 16777216
      omega
def pr_sphere_places (T : Tx K mg) : PrO := fun ds B k e => ∃ d, ds = [d] ∧ ((∃ n : Int, d = .int n ∧ 0 ≤ n ∧ n ≤ 12 ∧ k ((SP n).map (plT T)) B) ∨ (plainD d = true ∧ badW d ∧ e T.C_BadNumber (some ((["value"] : List Str), [d])) B) ∨ (∃ n : Int, d = .int n ∧ 20 < n ∧ e T.C_TooFar (some ((["number"] : List Str), [.int n])) B))
theorem okD_sphere_places (T : Tx K mg) : FnOk P w K mg base (L2.CX P w) 8 T.a_sphere_places T.d_sphere_places P_sphere_places (spO K (pr_sphere_places T)) := by
  refine T.F_sphere_places.okX sc_sphere_places (spO_len fun ds B k e h => by obtain ⟨d, rfl, hk⟩ := h; rfl) (fun cdv A outer s H vs Q E hr h => ?_)
  have G_Place_init : FnOk P w K mg base (L2.CX P w) _ _ _ _ _ := okD_Place_init T
  have G_check_near : FnOk P w K mg base (L2.CX P w) 3 _ _ _ _ := okD_check_near T
  have G_check_whole : FnOk P w K mg base (L2.CX P w) 4 _ _ _ _ := okD_check_whole T
  have G_new_areas : FnOk P w K mg base (L2.CX P w) 3 _ _ _ _ := okD_new_areas T
  obtain ⟨G, ds, B, k, e, hs, hR, ⟨d, rfl, hk⟩, hK, hX⟩ := h
  refine ⟨_, (pss_cons (ps_expr (pe_call G_check_whole (hr.mono (by decide)) (by rfl) T.g_check_whole T.F_check_whole.kp T.b_check_whole .nil (passE (E := E)) (pa_cons (pv 0) pa_nil)))
 (pss_cons (ps_expr (pe_call G_check_near (hr.mono (by decide)) (by rfl) T.g_check_near T.F_check_near.kp T.b_check_near .nil (passE (E := E)) (pa_cons (pv 0) pa_nil)))
 (pss_cons (ps_set (i := 1) sc_sphere_places.nd rfl (.inl rfl) (pe_lst pa_nil))
 (pss_cons (ps_for (passes_of rfl) rfl (pi_range2 (by rfl) T.n_range (pa_cons (pe_un un_neg (pv 0)) (pa_cons (pe_op op_add (pv 0) pe_int) pa_nil))) (pg_name (i := 2) sc_sphere_places.nd rfl (.inr rfl))
 (pss_one (ps_for (passes_of rfl) rfl (pi_range2 (by rfl) T.n_range (pa_cons (pe_op op_sub (pe_callB call_abs (by rfl) T.n_abs (by decide +kernel) (pa_cons (pv 2) pa_nil)) (pv 0)) (pa_cons (pe_op op_add (pe_op op_sub (pv 0) (pe_callB call_abs (by rfl) T.n_abs (by decide +kernel) (pa_cons (pv 2) pa_nil))) pe_int) pa_nil))) (pg_name (i := 3) sc_sphere_places.nd rfl (.inr rfl))
 (pss_one (ps_expr (pe_bm PySem.F.plainAttrs_list PySem.F.slot_list_extend PySem.F.type_list_extend mt_extend (pv 1) (pa_cons (pe_lc (te := (tMake T.C_Place (spI K T.C_Place ["x", "y", "area"] pr_Place_init) [] E0 (tCons (tVar 2) (tCons (tVar 3) (tCons (tVar 4) tNil))))) (own := [("area", 4)]) (g := gName 4) (by rfl) sc_sphere_places.nd (pi_list (pe_call G_new_areas (hr.mono (by decide)) (by rfl) T.g_new_areas T.F_new_areas.kp T.b_new_areas .nil (passE (E := E)) (pa_cons (pv 2) (pa_cons (pv 3) (pa_cons (pv 0) pa_nil))))) (blkOk_by (own := [("area", 4)]) (N := N_sphere_places) (sc := defScope s_sphere_places) (by decide +kernel)) (fun _ _ _ _ _ => pg_name (i := 4) sc_sphere_places.nd rfl (Or.inl rfl)) (fun _ _ _ _ _ => pts_nil) (fun _ _ _ _ _ => (pe_make T.M_Place G_Place_init (hr.mono (by decide)) (by rfl) T.g_C_Place T.b_Place_init .nil passL (pa_cons (pv 2) (pa_cons (pv 3) (pa_cons (pv 4) pa_nil)))))) pa_nil)))))))
 (pss_one (ps_ret (pv 1))))))), run_bodyO (ρ := [some d, none, none, none, none]) hs hR hK hX rfl ?_⟩
  have zL : 16000000 < sizeLine := by decide
  rcases hk with ⟨n, rfl, n0, n12, hk⟩ | ⟨pd, bd, he⟩ | ⟨n, rfl, n20, he⟩
  · have lSy : ∀ x : Int, (SPy n x).length ≤ 25 * 801 := fun x => by
      have h1 : (SPy n x).length ≤ (rgI (ab x - n) (n - ab x + 1)).length * 801 := flat_len fun y _ => by rw [List.length_map]; exact newF_len n0 (by omega)
      have h2 : (rgI (ab x - n) (n - ab x + 1)).length ≤ 25 := by rw [rgI_len]; unfold ab; omega
      exact Nat.le_trans h1 (Nat.mul_le_mul_right _ h2)
    have lAll : ∀ i : Nat, (((rgI (-n) (n + 1)).take i).flatMap (SPy n)).length ≤ 25 * (25 * 801) := fun i => by
      have h1 : (((rgI (-n) (n + 1)).take i).flatMap (SPy n)).length ≤ ((rgI (-n) (n + 1)).take i).length * (25 * 801) := flat_len fun x _ => lSy x
      have h2 : ((rgI (-n) (n + 1)).take i).length ≤ 25 := by rw [List.length_take, rgI_len]; omega
      exact Nat.le_trans h1 (Nat.mul_le_mul_right _ h2)
    have lRow : ∀ (x : Int) (j : Nat), (((rgI (ab x - n) (n - ab x + 1)).take j).flatMap fun y => (newF x y n).map fun a => (x, y, a)).length ≤ 25 * 801 := fun x j => by
      have h1 : (((rgI (ab x - n) (n - ab x + 1)).take j).flatMap fun y => (newF x y n).map fun a => (x, y, a)).length ≤ ((rgI (ab x - n) (n - ab x + 1)).take j).length * 801 := flat_len fun y _ => by rw [List.length_map]; exact newF_len n0 (by omega)
      have h2 : ((rgI (ab x - n) (n - ab x + 1)).take j).length ≤ 25 := by rw [List.length_take, rgI_len]; unfold ab; omega
      exact Nat.le_trans h1 (Nat.mul_le_mul_right _ h2)
    refine wr_seq <| wx_ws <| ws_drop <| we_callE <| wa_cons <| we_var rfl <| wa_nil ⟨_, rfl, .inl ⟨n, rfl, n0, ?_⟩⟩
    refine wr_seq <| wx_ws <| ws_drop <| we_callE <| wa_cons <| we_var rfl <| wa_nil ⟨_, rfl, .inl ⟨by omega, ?_⟩⟩
    refine wr_seq <| wx_newlist fun p => ?_
    refine wr_seq <| wx_for_range2 <| wa_cons <| we_neg <| we_var rfl ⟨_, rfl, wa_cons <| we_op <| we_var rfl <| we_int <| ro_i0 <| wa_nil ⟨-n, n + 1, rfl, by omega, fun i ρ' O' B' => (∃ o2 o3 o4, ρ' = [some (.int n), some (.val (.ref p)), o2, o3, o4]) ∧ O' = [(p, .list ((((rgI (-n) (n + 1)).take i).flatMap (SPy n)).map (plT T)))] ∧ B = B', ⟨⟨_, _, _, rfl⟩, rfl, rfl⟩, fun i ρ' O' B' hi hI => ?_, fun ρ' O' B' hI => ?_⟩⟩
    · obtain ⟨⟨o2, o3, o4, rfl⟩, rfl, rfl⟩ := hI
      have hx := rgI_get hi
      have x12 : -n ≤ -n + (i : Int) ∧ -n + (i : Int) ≤ n := by omega
      have tx := take_flat (f := SPy n) hx
      generalize (-n + (i : Int)) = x at x12 hx tx ⊢
      refine wg_name ?_
      refine wx_for_range2 <| wa_cons <| we_op <| we_abs <| wa_cons <| we_var rfl <| wa_nil ⟨_, rfl, we_var rfl <| ro_i0 <| wa_cons <| we_op <| we_op <| we_var rfl <| we_abs <| wa_cons <| we_var rfl <| wa_nil ⟨_, rfl, ro_i0 <| we_int <| ro_i0 <| wa_nil ⟨ab x - n, n - ab x + 1, by rw [ab_if], by unfold ab; omega, fun j ρ' O' B' => (∃ o3 o4, ρ' = [some (.int n), some (.val (.ref p)), some (.int x), o3, o4]) ∧ O' = [(p, .list ((((rgI (-n) (n + 1)).take i).flatMap (SPy n) ++ ((rgI (ab x - n) (n - ab x + 1)).take j).flatMap fun y => (newF x y n).map fun a => (x, y, a)).map (plT T)))] ∧ B = B', ⟨⟨_, _, rfl⟩, by rw [List.take_zero, List.flatMap_nil, List.append_nil], rfl⟩, fun j ρ' O' B' hj hI => ?_, fun ρ' O' B' hI => ?_⟩⟩⟩
      · obtain ⟨⟨o3, o4, rfl⟩, rfl, rfl⟩ := hI
        have hy := rgI_get hj
        have y12 : -12 ≤ ab x - n + (j : Int) ∧ ab x - n + (j : Int) ≤ 12 := by unfold ab at hj ⊢; omega
        have lE := lAll i
        have lR := lRow x j
        have ty := take_flat (f := fun y => (newF x y n).map fun a => (x, y, a)) hy
        generalize (ab x - n + (j : Int)) = y at y12 hy ty ⊢
        refine wg_name ?_
        have hln := newF_len (x := x) (y := y) n0 (by omega)
        refine wx_extend (n := 0) rfl rfl <| we_lc_mapL (E1 := E0) (f := fun d => match d with | .int a => plT T (x, y, a) | _ => .non) <| we_call <| wa_cons <| we_var rfl <| wa_cons <| we_var rfl <| wa_cons <| we_var rfl <| wa_nil ⟨x, y, n, rfl, n0, by omega, Nat.lt_of_lt_of_le (show x.natAbs < 32 by omega) (by decide), Nat.lt_of_lt_of_le (show y.natAbs < 32 by omega) (by decide), _, rfl, by rw [List.length_map]; omega, fun d hd k' hk' => ?_, ?_⟩
        · obtain ⟨a, ha, rfl⟩ := List.mem_map.mp hd
          exact we_place T <| wa_cons <| we_var rfl <| wa_cons <| we_var rfl <| wa_cons <| we_var rfl <| wa_nil ⟨x, y, a, rfl, hk'⟩
        · refine ⟨_, rfl, ?_, ⟨_, _, rfl⟩, ?_, rfl⟩
          · rw [List.length_map, List.length_map, List.length_map, List.length_append]
            omega
          · show [_] = [_]
            rw [ty, ← List.append_assoc, List.map_append (l₂ := List.map _ _), List.map_map, List.map_map]
            rfl
      · obtain ⟨⟨o3, o4, rfl⟩, rfl, rfl⟩ := hI
        refine ⟨⟨_, _, _, rfl⟩, ?_, rfl⟩
        rw [tx, List.take_of_length_le (l := rgI (ab x - n) (n - ab x + 1)) (by rw [rgI_len]; exact Nat.le_refl _)]
        rfl
    · obtain ⟨⟨o2, o3, o4, rfl⟩, rfl, rfl⟩ := hI
      refine wr_ret (n := 0) rfl rfl ?_
      rw [List.take_of_length_le (by rw [rgI_len]; exact Nat.le_refl _)]
      exact hk
  · exact wr_seq <| wx_ws <| ws_drop <| we_callE <| wa_cons <| we_var rfl <| wa_nil ⟨_, rfl, .inr ⟨pd, bd, he⟩⟩
  · refine wr_seq <| wx_ws <| ws_drop <| we_callE <| wa_cons <| we_var rfl <| wa_nil ⟨_, rfl, .inl ⟨n, rfl, by omega, ?_⟩⟩
    exact wr_seq <| wx_ws <| ws_drop <| we_callE <| wa_cons <| we_var rfl <| wa_nil ⟨_, rfl, .inr ⟨n20, he⟩⟩
end
end AW

set_option linter.all false
set_option maxRecDepth 100000
set_option maxHeartbeats 2000000
namespace AW
open PySem PySem.Spec PyProof.Rows L2 Fewest
variable [Tbs]
def nbS (p : T3) : List T3 := [(p.1 + 1, p.2.1, p.2.2), (p.1, p.2.1 + 1, p.2.2 + p.1), (p.1 - 1, p.2.1, p.2.2), (p.1, p.2.1 - 1, p.2.2 - p.1)]
/-- where the walks of n steps lead, each told -/
def Wks : Nat → List T3
  | 0 => [(0, 0, 0)]
  | n + 1 => (Wks n).flatMap nbS
def sm {α : Type} (f : α → Nat) (L : List α) : Nat := (L.map f).sum
section
variable {α β : Type}
theorem sm_nil (f : α → Nat) : sm f [] = 0 := rfl
theorem sm_cons (f : α → Nat) (a : α) (L : List α) : sm f (a :: L) = f a + sm f L := by simp [sm]
theorem sm_append (f : α → Nat) (L M : List α) : sm f (L ++ M) = sm f L + sm f M := by simp [sm]
theorem sm_flat (f : β → Nat) (g : α → List β) : ∀ L : List α, sm f (L.flatMap g) = sm (fun a => sm f (g a)) L
  | [] => rfl
  | a :: L => by rw [List.flatMap_cons, sm_append, sm_cons, sm_flat f g L]
theorem sm_map (f : β → Nat) (g : α → β) (L : List α) : sm f (L.map g) = sm (fun a => f (g a)) L := by simp [sm, Function.comp_def]
theorem sm_congr {f g : α → Nat} : ∀ {L : List α}, (∀ a ∈ L, f a = g a) → sm f L = sm g L
  | [], _ => rfl
  | a :: L, h => by rw [sm_cons, sm_cons, h a (List.mem_cons_self ..), sm_congr fun b hb => h b (List.mem_cons_of_mem _ hb)]
theorem sm_add (f g : α → Nat) : ∀ L : List α, sm (fun a => f a + g a) L = sm f L + sm g L
  | [] => rfl
  | a :: L => by rw [sm_cons, sm_cons, sm_cons, sm_add f g L]; omega
theorem sm_mul (c : Nat) (f : α → Nat) : ∀ L : List α, sm (fun a => f a * c) L = sm f L * c
  | [] => by simp [sm]
  | a :: L => by rw [sm_cons, sm_cons, sm_mul c f L, Nat.add_mul]
theorem sm_mul' (c : Nat) (f : α → Nat) (L : List α) : sm (fun a => c * f a) L = c * sm f L := by
  rw [Nat.mul_comm, ← sm_mul]; exact sm_congr fun a _ => Nat.mul_comm _ _
theorem sm_zero {f : α → Nat} {L : List α} (h : ∀ a ∈ L, f a = 0) : sm f L = 0 := by
  rw [sm_congr (g := fun _ => 0) h]
  induction L with
  | nil => rfl
  | cons a L ih => rw [sm_cons, ih fun b hb => h b (List.mem_cons_of_mem _ hb)]
theorem sm_le {f : α → Nat} {c : Nat} : ∀ {L : List α}, (∀ a ∈ L, f a ≤ c) → sm f L ≤ L.length * c
  | [], _ => Nat.zero_le _
  | a :: L, h => by
    have h1 := h a (List.mem_cons_self ..)
    have h2 := sm_le (L := L) fun b hb => h b (List.mem_cons_of_mem _ hb)
    rw [sm_cons, List.length_cons, Nat.succ_mul]; omega
theorem sm_le1 {f : α → Nat} {L : List α} (h : ∀ a ∈ L, f a ≤ 1) : sm f L ≤ L.length := by
  have := sm_le h; omega
theorem sm_comm (f : α → β → Nat) : ∀ (L : List α) (M : List β), sm (fun a => sm (f a) M) L = sm (fun b => sm (fun a => f a b) L) M
  | [], M => (sm_zero fun b _ => rfl).symm
  | a :: L, M => by
    rw [sm_cons, sm_comm f L M, ← sm_add]
    exact sm_congr fun b _ => by rw [sm_cons]
theorem sm_pos {f : α → Nat} {L : List α} (h : sm f L ≠ 0) : ∃ a ∈ L, f a ≠ 0 := by
  refine Classical.byContradiction fun n => h (sm_zero fun a ha => ?_)
  exact Classical.byContradiction fun z => n ⟨a, ha, z⟩
theorem sm_ge {f : α → Nat} : ∀ {L : List α} {a : α}, a ∈ L → f a ≤ sm f L
  | b :: L, a, h => by
    rw [sm_cons]
    rcases List.mem_cons.mp h with rfl | h
    · omega
    · have := sm_ge (f := f) h; omega
/-- the sum over a list as one over its places, each told once -/
theorem sm_keys [DecidableEq α] (f : α → Nat) {Q : List α} (nd : Q.Nodup) : ∀ {L : List α}, (∀ a ∈ L, a ∈ Q) → sm f L = sm (fun q => sm (fun a => if a = q then 1 else 0) L * f q) Q
  | [], _ => (sm_zero fun q _ => by rw [sm_nil, Nat.zero_mul]).symm
  | a :: L, h => by
    have ih := sm_keys f nd (L := L) fun b hb => h b (List.mem_cons_of_mem _ hb)
    have e : sm (fun q => sm (fun b => if b = q then 1 else 0) (a :: L) * f q) Q = sm (fun q => (if a = q then 1 else 0) * f q) Q + sm (fun q => sm (fun b => if b = q then 1 else 0) L * f q) Q := by
      rw [← sm_add]
      exact sm_congr fun q _ => by rw [sm_cons, Nat.add_mul]
    rw [e, sm_cons, ih]
    have one : ∀ {Q : List α}, Q.Nodup → a ∈ Q → sm (fun q => (if a = q then 1 else 0) * f q) Q = f a := by
      intro Q nd
      induction Q with
      | nil => exact fun h => nomatch h
      | cons q Q ihq =>
        intro hm
        obtain ⟨n1, n2⟩ := List.nodup_cons.mp nd
        rw [sm_cons]
        by_cases z : a = q
        · subst z
          rw [if_pos rfl, sm_zero fun b hb => by rw [if_neg fun w => n1 (by rw [w]; exact hb), Nat.zero_mul]]
          omega
        · rw [if_neg z, ihq n2 ((List.mem_cons.mp hm).resolve_left z)]; omega
    rw [one nd (h a (List.mem_cons_self ..))]
end
/-- how many of the walks of n steps lead to p -/
def cw (n : Nat) (p : T3) : Nat := sm (fun q => if q = p then 1 else 0) (Wks n)
theorem Wks_len : ∀ n, (Wks n).length = 4 ^ n
  | 0 => rfl
  | n + 1 => by
    show ((Wks n).flatMap nbS).length = _
    rw [List.length_flatMap, Nat.pow_succ, ← Wks_len n]
    have : ∀ L : List T3, (L.map fun p => (nbS p).length).sum = L.length * 4 := fun L => by
      induction L with
      | nil => rfl
      | cons a L ih => rw [List.map_cons, List.sum_cons, ih, List.length_cons]; show 4 + _ = _; omega
    exact this _
theorem cw_le (n : Nat) (p : T3) : cw n p ≤ 4 ^ n := by
  rw [← Wks_len]
  exact sm_le1 fun q _ => by split <;> omega
theorem cw_pos {n : Nat} {p : T3} : cw n p ≠ 0 ↔ p ∈ Wks n := by
  constructor
  · intro h
    obtain ⟨q, hq, hz⟩ := sm_pos h
    by_cases e : q = p
    · rw [← e]; exact hq
    · rw [if_neg e] at hz; exact absurd rfl hz
  · intro h z
    have := sm_ge (f := fun q => if q = p then 1 else 0) h
    rw [if_pos rfl] at this
    unfold cw at z
    omega

def muT (p q : T3) : T3 := (p.1 + q.1, p.2.1 + q.2.1, p.2.2 + q.2.2 + p.1 * q.2.1)
def ivT (p : T3) : T3 := (-p.1, -p.2.1, p.1 * p.2.1 - p.2.2)
def tuT (p : T3) : T3 := (-p.2.1, p.1, p.2.2 - p.1 * p.2.1)
theorem sm4 {α : Type} (f : α → Nat) (a b c d : α) : sm f [a, b, c, d] = f a + f b + f c + f d := by
  rw [sm_cons, sm_cons, sm_cons, sm_cons, sm_nil]; omega
theorem T3.ext {p q : T3} (a : p.1 = q.1) (b : p.2.1 = q.2.1) (c : p.2.2 = q.2.2) : p = q := Prod.ext a (Prod.ext b c)
theorem nb_mu (p q : T3) : nbS (muT p q) = (nbS q).map (muT p) := by
  unfold nbS
  simp only [List.map_cons, List.map_nil]
  have e1 : ((muT p q).1 + 1, (muT p q).2.1, (muT p q).2.2) = muT p (q.1 + 1, q.2.1, q.2.2) := T3.ext (by show p.1 + q.1 + 1 = p.1 + (q.1 + 1); omega) rfl rfl
  have e2 : ((muT p q).1, (muT p q).2.1 + 1, (muT p q).2.2 + (muT p q).1) = muT p (q.1, q.2.1 + 1, q.2.2 + q.1) := T3.ext rfl (by show p.2.1 + q.2.1 + 1 = p.2.1 + (q.2.1 + 1); omega) (by show p.2.2 + q.2.2 + p.1 * q.2.1 + (p.1 + q.1) = p.2.2 + (q.2.2 + q.1) + p.1 * (q.2.1 + 1); grind)
  have e3 : ((muT p q).1 - 1, (muT p q).2.1, (muT p q).2.2) = muT p (q.1 - 1, q.2.1, q.2.2) := T3.ext (by show p.1 + q.1 - 1 = p.1 + (q.1 - 1); omega) rfl rfl
  have e4 : ((muT p q).1, (muT p q).2.1 - 1, (muT p q).2.2 - (muT p q).1) = muT p (q.1, q.2.1 - 1, q.2.2 - q.1) := T3.ext rfl (by show p.2.1 + q.2.1 - 1 = p.2.1 + (q.2.1 - 1); omega) (by show p.2.2 + q.2.2 + p.1 * q.2.1 - (p.1 + q.1) = p.2.2 + (q.2.2 - q.1) + p.1 * (q.2.1 - 1); grind)
  rw [e1, e2, e3, e4]
theorem mu_home (p : T3) : muT p (0, 0, 0) = p := T3.ext (by show p.1 + 0 = _; omega) (by show p.2.1 + 0 = _; omega) (by show p.2.2 + 0 + p.1 * 0 = _; omega)
theorem sm_Wks (f : T3 → Nat) (n : Nat) : sm f (Wks (n + 1)) = sm (fun p => sm f (nbS p)) (Wks n) := sm_flat f nbS (Wks n)
/-- walks cut in two -/
theorem Wks_cut (i : Nat) : ∀ (j : Nat) (f : T3 → Nat), sm f (Wks (i + j)) = sm (fun p => sm (fun q => f (muT p q)) (Wks j)) (Wks i)
  | 0, f => sm_congr fun p _ => by
    show _ = sm _ [((0, 0, 0) : T3)]
    rw [sm_cons, sm_nil, mu_home]; rfl
  | j + 1, f => by
    show sm f (Wks (i + j + 1)) = _
    rw [sm_Wks, Wks_cut i j]
    exact sm_congr fun p _ => by
      rw [sm_Wks]
      exact sm_congr fun q _ => by rw [nb_mu, sm_map]
theorem cw_cut (i j : Nat) (P : T3) : cw (i + j) P = sm (fun p => sm (fun q => if muT p q = P then 1 else 0) (Wks j)) (Wks i) := Wks_cut i j _
theorem mu_iv {m q P : T3} : muT m q = P ↔ q = muT (ivT m) P := by
  obtain ⟨a, b, c⟩ := m
  obtain ⟨d, e, f⟩ := q
  obtain ⟨x, y, z⟩ := P
  simp only [muT, ivT, Prod.mk.injEq]
  constructor
  · rintro ⟨rfl, rfl, rfl⟩
    refine ⟨by omega, by omega, ?_⟩
    grind
  · rintro ⟨rfl, rfl, rfl⟩
    refine ⟨by omega, by omega, ?_⟩
    grind
/-- the sum that the law forms over the middles -/
theorem cw_mid (i j : Nat) (P : T3) {Q : List T3} (nd : Q.Nodup) (hQ : ∀ p ∈ Wks i, p ∈ Q) : cw (i + j) P = sm (fun m => cw i m * cw j (muT (ivT m) P)) Q := by
  rw [cw_cut, sm_keys _ nd hQ]
  refine sm_congr fun m _ => ?_
  show cw i m * _ = _
  congr 1
  exact sm_congr fun q _ => by
    by_cases h : muT m q = P
    · rw [if_pos h, if_pos (mu_iv.mp h)]
    · rw [if_neg h, if_neg fun z => h (mu_iv.mpr z)]
theorem Wks_iv : ∀ (n : Nat) (f : T3 → Nat), sm (fun p => f (ivT p)) (Wks n) = sm f (Wks n)
  | 0, f => by show sm _ [((0, 0, 0) : T3)] = sm _ [((0, 0, 0) : T3)]; rw [sm_cons, sm_cons, sm_nil]; rfl
  | n + 1, f => by
    rw [sm_Wks]
    have e : ∀ p : T3, sm (fun q => f (ivT q)) (nbS p) = (fun r => sm (fun c => f (muT c r)) (nbS (0, 0, 0))) (ivT p) := fun p => by
      obtain ⟨x, y, a⟩ := p
      show sm (fun q => f (ivT q)) (nbS (x, y, a)) = sm (fun c => f (muT c (ivT (x, y, a)))) (nbS (0, 0, 0))
      unfold nbS
      rw [sm4, sm4]
      have e1 : ivT ((x, y, a).1 + 1, (x, y, a).2.1, (x, y, a).2.2) = muT (((0, 0, 0) : T3).1 - 1, ((0, 0, 0) : T3).2.1, ((0, 0, 0) : T3).2.2) (ivT (x, y, a)) := T3.ext (by show -(x + 1) = 0 - 1 + -x; omega) (by show -y = 0 + -y; omega) (by show (x + 1) * y - a = 0 + (x * y - a) + (0 - 1) * -y; grind)
      have e2 : ivT ((x, y, a).1, (x, y, a).2.1 + 1, (x, y, a).2.2 + (x, y, a).1) = muT (((0, 0, 0) : T3).1, ((0, 0, 0) : T3).2.1 - 1, ((0, 0, 0) : T3).2.2 - ((0, 0, 0) : T3).1) (ivT (x, y, a)) := T3.ext (by show -x = 0 + -x; omega) (by show -(y + 1) = 0 - 1 + -y; omega) (by show x * (y + 1) - (a + x) = 0 - 0 + (x * y - a) + 0 * -y; grind)
      have e3 : ivT ((x, y, a).1 - 1, (x, y, a).2.1, (x, y, a).2.2) = muT (((0, 0, 0) : T3).1 + 1, ((0, 0, 0) : T3).2.1, ((0, 0, 0) : T3).2.2) (ivT (x, y, a)) := T3.ext (by show -(x - 1) = 0 + 1 + -x; omega) (by show -y = 0 + -y; omega) (by show (x - 1) * y - a = 0 + (x * y - a) + (0 + 1) * -y; grind)
      have e4 : ivT ((x, y, a).1, (x, y, a).2.1 - 1, (x, y, a).2.2 - (x, y, a).1) = muT (((0, 0, 0) : T3).1, ((0, 0, 0) : T3).2.1 + 1, ((0, 0, 0) : T3).2.2 + ((0, 0, 0) : T3).1) (ivT (x, y, a)) := T3.ext (by show -x = 0 + -x; omega) (by show -(y - 1) = 0 + 1 + -y; omega) (by show x * (y - 1) - (a - x) = 0 + 0 + (x * y - a) + 0 * -y; grind)
      rw [e1, e2, e3, e4]
      omega
    rw [sm_congr fun p _ => e p, Wks_iv n fun r => sm (fun c => f (muT c r)) (nbS (0, 0, 0)), Nat.add_comm n 1, Wks_cut 1 n, sm_comm]
    rfl
theorem iv_iv (p : T3) : ivT (ivT p) = p := by
  obtain ⟨x, y, a⟩ := p
  refine T3.ext ?_ ?_ ?_
  · show - -x = x; omega
  · show - -y = y; omega
  · show -x * -y - (x * y - a) = a; grind
theorem cw_iv (n : Nat) (P : T3) : cw n (ivT P) = cw n P := by
  unfold cw
  rw [← Wks_iv n]
  exact sm_congr fun q _ => by
    by_cases h : q = P
    · rw [if_pos h, if_pos (by rw [h])]
    · rw [if_neg h, if_neg fun z => h (by rw [← iv_iv q, z, iv_iv])]
theorem nb_tu (f : T3 → Nat) (p : T3) : sm (fun q => f (tuT q)) (nbS p) = sm f (nbS (tuT p)) := by
  obtain ⟨x, y, a⟩ := p
  unfold nbS
  rw [sm4, sm4]
  have e1 : tuT ((x, y, a).1 + 1, (x, y, a).2.1, (x, y, a).2.2) = ((tuT (x, y, a)).1, (tuT (x, y, a)).2.1 + 1, (tuT (x, y, a)).2.2 + (tuT (x, y, a)).1) := T3.ext rfl rfl (by show a - (x + 1) * y = a - x * y + -y; grind)
  have e2 : tuT ((x, y, a).1, (x, y, a).2.1 + 1, (x, y, a).2.2 + (x, y, a).1) = ((tuT (x, y, a)).1 - 1, (tuT (x, y, a)).2.1, (tuT (x, y, a)).2.2) := T3.ext (by show -(y + 1) = -y - 1; omega) rfl (by show a + x - x * (y + 1) = a - x * y; grind)
  have e3 : tuT ((x, y, a).1 - 1, (x, y, a).2.1, (x, y, a).2.2) = ((tuT (x, y, a)).1, (tuT (x, y, a)).2.1 - 1, (tuT (x, y, a)).2.2 - (tuT (x, y, a)).1) := T3.ext rfl rfl (by show a - (x - 1) * y = a - x * y - -y; grind)
  have e4 : tuT ((x, y, a).1, (x, y, a).2.1 - 1, (x, y, a).2.2 - (x, y, a).1) = ((tuT (x, y, a)).1 + 1, (tuT (x, y, a)).2.1, (tuT (x, y, a)).2.2) := T3.ext (by show -(y - 1) = -y + 1; omega) rfl (by show a - x - x * (y - 1) = a - x * y; grind)
  rw [e1, e2, e3, e4]
  omega
theorem Wks_tu : ∀ (n : Nat) (f : T3 → Nat), sm (fun p => f (tuT p)) (Wks n) = sm f (Wks n)
  | 0, f => by show sm _ [((0, 0, 0) : T3)] = sm _ [((0, 0, 0) : T3)]; rw [sm_cons, sm_cons, sm_nil]; rfl
  | n + 1, f => by
    rw [sm_Wks, sm_Wks, sm_congr fun p _ => nb_tu f p]
    exact Wks_tu n fun r => sm f (nbS r)
theorem cw_tu (n : Nat) (P : T3) : cw n (tuT P) = cw n P := by
  unfold cw
  rw [← Wks_tu n]
  exact sm_congr fun q _ => by
    by_cases h : q = P
    · rw [if_pos h, if_pos (by rw [h])]
    · rw [if_neg h, if_neg fun z => h ?_]
      obtain ⟨x, y, a⟩ := q
      obtain ⟨x', y', a'⟩ := P
      simp only [tuT, Prod.mk.injEq] at z
      obtain ⟨z1, z2, z3⟩ := z
      have e1 : y = y' := by omega
      subst e1 z2
      refine T3.ext rfl rfl ?_
      show a = a'
      omega
theorem Wks_x : ∀ {n : Nat} {p : T3}, p ∈ Wks n → p.1 ≤ n
  | 0, p, h => by
    have e : p = (0, 0, 0) := List.mem_singleton.mp h
    subst e; decide
  | n + 1, p, h => by
    obtain ⟨q, hq, hp⟩ := List.mem_flatMap.mp h
    have ih := Wks_x hq
    simp only [nbS, List.mem_cons, List.not_mem_nil, or_false] at hp
    rcases hp with rfl | rfl | rfl | rfl <;> (dsimp only; push_cast; omega)
theorem cw_east : ∀ n : Nat, cw n ((n : Int), 0, 0) = 1
  | 0 => by show sm _ [((0, 0, 0) : T3)] = 1; rw [sm_cons, sm_nil]; rfl
  | n + 1 => by
    have e : cw (n + 1) (((n + 1 : Nat) : Int), 0, 0) = cw n ((n : Int), 0, 0) := by
      unfold cw
      rw [sm_Wks]
      refine sm_congr fun p hp => ?_
      have hx := Wks_x hp
      obtain ⟨x, y, a⟩ := p
      have hx : x ≤ n := hx
      unfold nbS
      rw [sm4]
      simp only [Prod.mk.injEq]
      push_cast
      have n2 : ¬ (x = (n : Int) + 1) := by omega
      have n3 : ¬ (x - 1 = (n : Int) + 1) := by omega
      have n1 : (x + 1 = (n : Int) + 1) ↔ x = n := by omega
      simp only [n1, n2, n3, false_and, if_false]
      omega
    rw [e, cw_east n]
end AW

set_option linter.all false
set_option maxRecDepth 100000
set_option maxHeartbeats 2000000
namespace AW
open PySem PySem.Spec PyProof.Rows L2 Fewest
variable [Tbs]
section
variable {α : Type} [DecidableEq α] (κ : α → List L2.Key) (F : α → Int)
def TF (Q : List α) : List (List L2.Key × D) := Q.map fun t => (κ t, D.int (F t))
def upF (t : α) (v : Int) : α → Int := fun u => if u = t then v else F u
def adQ (Q : List α) (t : α) : List α := if t ∈ Q then Q else Q ++ [t]
theorem TF_len (Q : List α) : (TF κ F Q).length = Q.length := by unfold TF; rw [List.length_map]
theorem adQ_nd {Q : List α} (h : Q.Nodup) (t : α) : (adQ Q t).Nodup := by
  unfold adQ
  split
  · exact h
  · rename_i n
    refine List.nodup_append.mpr ⟨h, List.nodup_cons.mpr ⟨fun h => (nomatch h), List.nodup_nil⟩, fun a ha b hb e => ?_⟩
    rw [List.mem_singleton.mp hb] at e
    subst e
    exact n ha
theorem adQ_mem {Q : List α} {t u : α} : u ∈ adQ Q t ↔ u ∈ Q ∨ u = t := by
  unfold adQ
  split
  · rename_i h
    exact ⟨.inl, fun z => z.elim id fun e => by rw [e]; exact h⟩
  · rw [List.mem_append, List.mem_singleton]
theorem adQ_len (Q : List α) (t : α) : (adQ Q t).length ≤ Q.length + 1 := by
  unfold adQ
  split
  · omega
  · rw [List.length_append, List.length_singleton]; omega
variable {κ F}
theorem TF_any (inj : ∀ a b, κ a = κ b → a = b) {Q : List α} {t : α} : ((TF κ F Q).any fun x => decide (x.1 = κ t)) = decide (t ∈ Q) := by
  unfold TF
  induction Q with
  | nil => simp
  | cons q Q ih =>
    rw [List.map_cons, List.any_cons, ih]
    by_cases e : q = t
    · subst e; simp
    · have e2 : ¬ κ q = κ t := fun z => e (inj _ _ z)
      have e3 : ¬ t = q := fun z => e z.symm
      simp [e2, e3]
theorem TF_get (inj : ∀ a b, κ a = κ b → a = b) {Q : List α} {t : α} : lkD (TF κ F Q) (κ t) = if t ∈ Q then some (.int (F t)) else none := by
  unfold TF lkD
  induction Q with
  | nil => simp
  | cons q Q ih =>
    rw [List.map_cons, List.find?_cons]
    by_cases e : q = t
    · subst e; simp
    · have e2 : ¬ κ q = κ t := fun z => e (inj _ _ z)
      have e3 : ¬ t = q := fun z => e z.symm
      rw [decide_eq_false (by exact e2)]
      simp only [List.mem_cons, e3, false_or]
      exact ih
theorem TF_put (inj : ∀ a b, κ a = κ b → a = b) {Q : List α} {t : α} {v : Int} : putD (TF κ F Q) (κ t) (.int v) = TF κ (upF F t v) (adQ Q t) := by
  unfold putD
  rw [TF_any inj]
  unfold adQ
  by_cases h : t ∈ Q
  · rw [decide_eq_true h, if_pos rfl, if_pos h]
    unfold TF
    rw [List.map_map]
    refine List.map_congr_left fun u hu => ?_
    show (if κ u = κ t then (κ u, D.int v) else (κ u, D.int (F u))) = (κ u, D.int (upF F t v u))
    unfold upF
    by_cases e : u = t
    · subst e; rw [if_pos rfl, if_pos rfl]
    · rw [if_neg fun z => e (inj _ _ z), if_neg e]
  · rw [decide_eq_false h, if_neg Bool.false_ne_true, if_neg h]
    unfold TF
    rw [List.map_append]
    congr 1
    · refine List.map_congr_left fun u hu => ?_
      unfold upF
      rw [if_neg fun z => h (by rw [← z]; exact hu)]
    · show [(κ t, D.int v)] = [(κ t, D.int (upF F t v t))]
      unfold upF
      rw [if_pos rfl]
theorem TF_ints (f : Bool) (Q : List α) : lkOkL f ((TF κ F Q).map (·.2)) = true := by
  unfold TF
  induction Q with
  | nil => rfl
  | cons q Q ih => show (true && lkOkL f _) = true; rw [ih]; rfl
theorem TF_kss (Q : List α) : (TF κ F Q).map (·.1) = Q.map κ := by unfold TF; rw [List.map_map]; rfl
theorem TF_congr {G : α → Int} {Q : List α} (h : ∀ t ∈ Q, F t = G t) : TF κ F Q = TF κ G Q := List.map_congr_left fun u hu => by rw [h u hu]
end
section
variable {α : Type} [DecidableEq α] {κ : T3 → α}
theorem sm_filt (f : T3 → Nat) (P : T3 → Bool) : ∀ L : List T3, sm f (L.filter P) = sm (fun p => if P p = true then f p else 0) L
  | [] => rfl
  | a :: L => by
    rw [sm_cons, ← sm_filt f P L]
    by_cases h : P a = true
    · rw [List.filter_cons_of_pos h, sm_cons, if_pos h]
    · rw [List.filter_cons_of_neg h, if_neg h]; omega
/-- what is filed under the keys Q -/
def prc (κ : T3 → α) (Q : List α) (L : List T3) : List T3 := L.filter fun p => decide (κ p ∈ Q)
theorem prc_nil (f : T3 → Nat) (L : List T3) : sm f (prc κ ([] : List α) L) = 0 := by
  unfold prc
  rw [sm_filt]
  exact sm_zero fun p _ => by simp
/-- one key more is gone through -/
theorem sm_next (f : T3 → Nat) (L : List T3) {Q : List α} (nd : Q.Nodup) {i : Nat} {s : α} (h : Q[i]? = some s) : sm f (prc κ (Q.take (i + 1)) L) = sm f (prc κ (Q.take i) L) + sm f (L.filter fun p => decide (κ p = s)) := by
  unfold prc
  rw [sm_filt, sm_filt, sm_filt, ← sm_add]
  refine sm_congr fun p _ => ?_
  have ns : s ∉ Q.take i := fun hs => by
    obtain ⟨j, hj⟩ := List.mem_iff_getElem?.mp hs
    have hji : j < i := by
      have := (List.getElem?_eq_some_iff.mp hj).1
      rw [List.length_take] at this; omega
    rw [List.getElem?_take_of_lt hji] at hj
    have hi := (List.getElem?_eq_some_iff.mp h).1
    have hjl := (List.getElem?_eq_some_iff.mp hj).1
    have := (List.getElem?_inj hjl nd).mp (hj.trans h.symm)
    omega
  rw [List.take_add_one, h, Option.toList_some]
  simp only [List.mem_append, List.mem_singleton, decide_eq_true_eq]
  by_cases a : κ p ∈ Q.take i
  · have b : ¬ κ p = s := fun z => ns (by rw [← z]; exact a)
    simp [a, b]
  · by_cases b : κ p = s
    · simp [b, ns]
    · simp [a, b]
theorem sm_all (f : T3 → Nat) {L : List T3} {Q : List α} (h : ∀ p ∈ L, κ p ∈ Q) : sm f (prc κ Q L) = sm f L := by
  unfold prc
  rw [sm_filt]
  exact sm_congr fun p hp => by rw [if_pos (decide_eq_true (h p hp))]
/-- the weight of what is filed under t -/
def gw (w : T3 → Nat) (κ : T3 → α) (t : α) (L : List T3) : Nat := sm (fun p => if κ p = t then w p else 0) L
theorem gw_filt (w : T3 → Nat) (t : α) (L : List T3) : gw w κ t L = sm w (L.filter fun p => decide (κ p = t)) := by
  rw [sm_filt]
  exact sm_congr fun p _ => by simp only [decide_eq_true_eq]
end
abbrev Sq := Int × Int
abbrev sqT (p : T3) : Sq := (p.1, p.2.1)
def wt (s D : Nat) (p : T3) : Nat := 2 ^ (s * ((D : Int) + p.2.2).toNat)
abbrev PV (s D : Nat) (t : Sq) (L : List T3) : Nat := gw (wt s D) sqT t L
/-- the pack with its areas moved by x -/
def shP (s : Nat) (x : Int) (v : Nat) : Nat := if x < 0 then v / 2 ^ (s * (-x).toNat) else v * 2 ^ (s * x.toNat)
theorem sh_eq (s D : Nat) (x : Int) {M : List T3} (h0 : ∀ p ∈ M, 0 ≤ (D : Int) + p.2.2) (h1 : ∀ p ∈ M, 0 ≤ (D : Int) + p.2.2 + x) : shP s x (sm (wt s D) M) = sm (fun p => 2 ^ (s * ((D : Int) + p.2.2 + x).toNat)) M := by
  unfold shP
  by_cases hx : x < 0
  · rw [if_pos hx]
    have e : sm (wt s D) M = sm (fun p => 2 ^ (s * ((D : Int) + p.2.2 + x).toNat)) M * 2 ^ (s * (-x).toNat) := by
      rw [← sm_mul]
      refine sm_congr fun p hp => ?_
      have a := h1 p hp
      unfold wt
      rw [← Nat.pow_add, ← Nat.mul_add]
      congr 2
      omega
    rw [e, Nat.mul_div_cancel _ (Nat.pow_pos (by decide))]
  · rw [if_neg hx, ← sm_mul]
    refine sm_congr fun p hp => ?_
    have a := h0 p hp
    unfold wt
    rw [← Nat.pow_add, ← Nat.mul_add]
    congr 2
    omega
/-- what the four steps from one square bring -/
def ctS (s : Nat) (q : Sq) (v : Nat) (t : Sq) : Nat := (if t = (q.1 + 1, q.2) then v else 0) + (if t = (q.1 - 1, q.2) then v else 0) + (if t = (q.1, q.2 + 1) then shP s q.1 v else 0) + (if t = (q.1, q.2 - 1) then shP s (-q.1) v else 0)
theorem ct_eq (s D : Nat) (q t : Sq) {M : List T3} (hq : ∀ p ∈ M, sqT p = q) (h0 : ∀ p ∈ M, ∀ r ∈ nbS p, 0 ≤ (D : Int) + r.2.2) : sm (fun p => sm (fun r => if sqT r = t then wt s D r else 0) (nbS p)) M = ctS s q (sm (wt s D) M) t := by
  have g0 : ∀ p ∈ M, 0 ≤ (D : Int) + p.2.2 := fun p hp => h0 p hp (p.1 + 1, p.2.1, p.2.2) (by simp [nbS])
  have g1 : ∀ p ∈ M, 0 ≤ (D : Int) + p.2.2 + q.1 := fun p hp => by
    have := h0 p hp (p.1, p.2.1 + 1, p.2.2 + p.1) (by simp [nbS])
    have e : p.1 = q.1 := congrArg Prod.fst (hq p hp)
    have this : 0 ≤ (D : Int) + (p.2.2 + p.1) := this
    omega
  have g2 : ∀ p ∈ M, 0 ≤ (D : Int) + p.2.2 + -q.1 := fun p hp => by
    have := h0 p hp (p.1, p.2.1 - 1, p.2.2 - p.1) (by simp [nbS])
    have e : p.1 = q.1 := congrArg Prod.fst (hq p hp)
    have this : 0 ≤ (D : Int) + (p.2.2 - p.1) := this
    omega
  unfold ctS
  rw [sh_eq s D q.1 g0 g1, sh_eq s D (-q.1) g0 g2]
  have k : ∀ (c : Prop) [Decidable c] (f : T3 → Nat), (if c then sm f M else 0) = sm (fun p => if c then f p else 0) M := fun c _ f => by
    by_cases h : c
    · simp only [if_pos h]
    · simp only [if_neg h]; exact (sm_zero fun _ _ => rfl).symm
  rw [k, k, k, k, ← sm_add, ← sm_add, ← sm_add]
  refine sm_congr fun p hp => ?_
  have e1 : p.1 = q.1 := congrArg Prod.fst (hq p hp)
  have e2 : p.2.1 = q.2 := congrArg Prod.snd (hq p hp)
  unfold nbS
  rw [sm4]
  have d1 : wt s D (p.1 + 1, p.2.1, p.2.2) = wt s D p := rfl
  have d2 : wt s D (p.1, p.2.1 + 1, p.2.2 + p.1) = 2 ^ (s * ((D : Int) + p.2.2 + q.1).toNat) := by unfold wt; rw [← e1, Int.add_assoc]
  have d3 : wt s D (p.1 - 1, p.2.1, p.2.2) = wt s D p := rfl
  have d4 : wt s D (p.1, p.2.1 - 1, p.2.2 - p.1) = 2 ^ (s * ((D : Int) + p.2.2 + -q.1).toNat) := by
    unfold wt; rw [← e1]; congr 2
    show ((D : Int) + (p.2.2 - p.1)).toNat = _
    congr 1; omega
  rw [d1, d2, d3, d4]
  show (if (p.1 + 1, p.2.1) = t then _ else _) + (if (p.1, p.2.1 + 1) = t then _ else _) + (if (p.1 - 1, p.2.1) = t then _ else _) + (if (p.1, p.2.1 - 1) = t then _ else _) = _
  rw [e1, e2]
  simp only [eq_comm (a := t)]
  omega
theorem dig_split (s A : Nat) : ∀ L : List Nat, ∃ lo hi, sm (fun e => 2 ^ (s * e)) L = lo + (sm (fun e => if e = A then 1 else 0) L + hi * 2 ^ s) * 2 ^ (s * A) ∧ lo * 2 ^ s ≤ L.length * 2 ^ (s * A)
  | [] => ⟨0, 0, by simp [sm], by simp⟩
  | e :: L => by
    obtain ⟨lo, hi, h1, h2⟩ := dig_split s A L
    rw [sm_cons, sm_cons, h1, List.length_cons]
    rcases Nat.lt_trichotomy e A with h | h | h
    · refine ⟨2 ^ (s * e) + lo, hi, by rw [if_neg (by omega)]; simp only [Nat.zero_add, Nat.add_mul]; omega, ?_⟩
      have : 2 ^ (s * e) * 2 ^ s ≤ 2 ^ (s * A) := by
        rw [← Nat.pow_add]
        refine Nat.pow_le_pow_right (by decide) ?_
        have := Nat.mul_le_mul_left s (show e + 1 ≤ A by omega)
        rw [Nat.mul_add, Nat.mul_one] at this
        exact this
      rw [Nat.add_mul, Nat.succ_mul]; omega
    · subst h
      refine ⟨lo, hi, ?_, ?_⟩
      · rw [if_pos rfl]
        simp only [Nat.add_mul, Nat.one_mul]; omega
      · have hp : 0 < 2 ^ (s * e) := Nat.pow_pos (by decide)
        rw [Nat.succ_mul]; omega
    · have hp : 0 < 2 ^ (s * A) := Nat.pow_pos (by decide)
      refine ⟨lo, 2 ^ (s * (e - A - 1)) + hi, ?_, by rw [Nat.succ_mul]; omega⟩
      rw [if_neg (by omega)]
      have : 2 ^ (s * e) = 2 ^ (s * (e - A - 1)) * 2 ^ s * 2 ^ (s * A) := by
        rw [← Nat.pow_add, ← Nat.pow_add]
        congr 1
        have e1 : e = (e - A - 1) + 1 + A := by omega
        have e2 : s * e = s * ((e - A - 1) + 1 + A) := congrArg _ e1
        rw [e2, Nat.mul_add, Nat.mul_add, Nat.mul_one]
      rw [this]
      simp only [Nat.add_mul, Nat.zero_add]; omega
theorem dig {s A : Nat} {L : List Nat} (h : L.length < 2 ^ s) : sm (fun e => 2 ^ (s * e)) L / 2 ^ (s * A) % 2 ^ s = sm (fun e => if e = A then 1 else 0) L := by
  obtain ⟨lo, hi, h1, h2⟩ := dig_split s A L
  have hp : 0 < 2 ^ (s * A) := Nat.pow_pos (by decide)
  have hs : 0 < 2 ^ s := Nat.pow_pos (by decide)
  have hlo : lo < 2 ^ (s * A) := by
    have h3 : lo * 2 ^ s < 2 ^ s * 2 ^ (s * A) := Nat.lt_of_le_of_lt h2 (Nat.mul_lt_mul_of_pos_right h hp)
    rw [Nat.mul_comm (2 ^ s)] at h3
    exact Nat.lt_of_mul_lt_mul_right h3
  rw [h1, Nat.add_mul_div_right _ _ hp, Nat.div_eq_of_lt hlo, Nat.zero_add, Nat.add_mul_mod_self_right]
  refine Nat.mod_eq_of_lt (Nat.lt_of_le_of_lt (sm_le1 fun e _ => ?_) h)
  split <;> omega
/-- what joins two squares -/
def jnS (P : T3) (L2 : List T3) (p : T3) : Nat := sm (fun q => if muT p q = P then 1 else 0) L2
theorem join_at {s D : Nat} {P : T3} {L1 M : List T3} {t1 : Sq} (hl : L1.length * M.length < 2 ^ s) (h1 : ∀ p ∈ L1, 0 ≤ (D : Int) + p.2.2) (h2 : ∀ p ∈ M, 0 ≤ (D : Int) + p.2.2) (hA : 0 ≤ P.2.2 + 2 * D - t1.1 * (P.2.1 - t1.2)) :
    PV s D t1 L1 * PV s D (P.1 - t1.1, P.2.1 - t1.2) M / 2 ^ (s * (P.2.2 + 2 * D - t1.1 * (P.2.1 - t1.2)).toNat) % 2 ^ s = sm (fun p => if sqT p = t1 then jnS P M p else 0) L1 := by
  have e0 : ∀ (f : T3 → Nat) (c : Nat) (L : List T3), sm f L * c = sm (fun p => f p * c) L := fun f c L => (sm_mul c f L).symm
  have key : PV s D t1 L1 * PV s D (P.1 - t1.1, P.2.1 - t1.2) M = sm (fun e => 2 ^ (s * e)) ((L1.filter fun p => decide (sqT p = t1)).flatMap fun p => (M.filter fun q => decide (sqT q = (P.1 - t1.1, P.2.1 - t1.2))).map fun q => ((D : Int) + p.2.2).toNat + ((D : Int) + q.2.2).toNat) := by
    unfold PV
    rw [gw_filt, gw_filt, sm_flat, e0]
    refine sm_congr fun p _ => ?_
    rw [sm_map, ← sm_mul']
    refine sm_congr fun q _ => ?_
    unfold wt
    rw [← Nat.pow_add, ← Nat.mul_add]
  rw [key, dig, sm_flat, sm_filt]
  · refine sm_congr fun p hp => ?_
    by_cases c : sqT p = t1
    · rw [if_pos c, if_pos (decide_eq_true c), sm_map, sm_filt]
      unfold jnS
      refine sm_congr fun q hq => ?_
      have a1 := h1 p hp
      have a2 := h2 q hq
      obtain ⟨x, y, a⟩ := p
      obtain ⟨u, v, b⟩ := q
      have c1 : x = t1.1 := congrArg Prod.fst c
      have c2 : y = t1.2 := congrArg Prod.snd c
      have a1 : 0 ≤ (D : Int) + a := a1
      have a2 : 0 ≤ (D : Int) + b := a2
      show (if decide ((u, v) = (P.1 - t1.1, P.2.1 - t1.2)) = true then (if ((D : Int) + a).toNat + ((D : Int) + b).toNat = (P.2.2 + 2 * D - t1.1 * (P.2.1 - t1.2)).toNat then 1 else 0) else 0) = if muT (x, y, a) (u, v, b) = P then 1 else 0
      obtain ⟨X, Y, Z⟩ := P
      dsimp only at hA ⊢
      by_cases c3 : (u, v) = (X - t1.1, Y - t1.2)
      · have d1 : u = X - t1.1 := congrArg Prod.fst c3
        have d2 : v = Y - t1.2 := congrArg Prod.snd c3
        rw [if_pos (decide_eq_true c3)]
        have e : (((D : Int) + a).toNat + ((D : Int) + b).toNat = (Z + 2 * D - t1.1 * (Y - t1.2)).toNat) ↔ muT (x, y, a) (u, v, b) = (X, Y, Z) := by
          unfold muT
          simp only [Prod.mk.injEq]
          rw [c1, c2, d1, d2]
          generalize t1.1 * (Y - t1.2) = m at hA ⊢
          constructor
          · intro h; refine ⟨by omega, by omega, by omega⟩
          · intro h; obtain ⟨_, _, h⟩ := h; omega
        by_cases c4 : muT (x, y, a) (u, v, b) = (X, Y, Z)
        · rw [if_pos c4, if_pos (e.mpr c4)]
        · rw [if_neg c4, if_neg fun z => c4 (e.mp z)]
      · rw [if_neg (by rw [decide_eq_true_eq]; exact c3), if_neg fun z => c3 ?_]
        unfold muT at z
        simp only [Prod.mk.injEq] at z ⊢
        omega
    · rw [if_neg c, if_neg (by rw [decide_eq_true_eq]; exact c)]
  · refine Nat.lt_of_le_of_lt ?_ hl
    rw [List.length_flatMap]
    have h3 : ∀ (L : List T3) (N : List T3) (c : Nat), N.length ≤ c → (L.map fun p => (N.map fun q => ((D : Int) + p.2.2).toNat + ((D : Int) + q.2.2).toNat).length).sum ≤ L.length * c := fun L N c hc => by
      induction L with
      | nil => simp
      | cons a L ih => rw [List.map_cons, List.sum_cons, List.length_map, List.length_cons, Nat.succ_mul]; omega
    refine Nat.le_trans (h3 _ _ M.length (List.length_filter_le ..)) (Nat.mul_le_mul_right _ (List.length_filter_le ..))
theorem join_no {P : T3} {L1 M : List T3} {t1 : Sq} {D : Nat} (h1 : ∀ p ∈ L1, 0 ≤ (D : Int) + p.2.2) (h2 : ∀ p ∈ M, 0 ≤ (D : Int) + p.2.2) (hA : P.2.2 + 2 * D - t1.1 * (P.2.1 - t1.2) < 0 ∨ ∀ q ∈ M, sqT q ≠ (P.1 - t1.1, P.2.1 - t1.2)) : sm (fun p => if sqT p = t1 then jnS P M p else 0) L1 = 0 := by
  refine sm_zero fun p hp => ?_
  by_cases c : sqT p = t1
  · rw [if_pos c]
    refine sm_zero fun q hq => if_neg fun z => ?_
    have a1 := h1 p hp
    have a2 := h2 q hq
    have c1 : p.1 = t1.1 := congrArg Prod.fst c
    have c2 : p.2.1 = t1.2 := congrArg Prod.snd c
    subst z
    rcases hA with hA | hA
    · have hA : p.2.2 + q.2.2 + p.1 * q.2.1 + 2 * D - t1.1 * (p.2.1 + q.2.1 - t1.2) < 0 := hA
      rw [← c1, ← c2, show p.2.1 + q.2.1 - p.2.1 = q.2.1 by omega] at hA
      omega
    · exact hA q hq (Prod.ext (by show q.1 = p.1 + q.1 - t1.1; omega) (by show q.2.1 = p.2.1 + q.2.1 - t1.2; omega))
  · rw [if_neg c]
theorem sm_once {f : T3 → Nat} {L : List T3} {Q : List Sq} (nd : Q.Nodup) (h : ∀ p ∈ L, sqT p ∈ Q) : sm (fun t => sm (fun p => if sqT p = t then f p else 0) L) Q = sm f L := by
  rw [sm_comm]
  refine sm_congr fun p hp => ?_
  have : ∀ {Q : List Sq}, Q.Nodup → sqT p ∈ Q → sm (fun t => if sqT p = t then f p else 0) Q = f p := by
    intro Q nd
    induction Q with
    | nil => exact fun h => nomatch h
    | cons q Q ih =>
      intro hm
      obtain ⟨n1, n2⟩ := List.nodup_cons.mp nd
      rw [sm_cons]
      by_cases z : sqT p = q
      · rw [if_pos z, sm_zero fun b hb => if_neg fun w => n1 (by rw [← z, w]; exact hb)]; omega
      · rw [if_neg z, ih n2 ((List.mem_cons.mp hm).resolve_left z)]; omega
  exact this nd (h p hp)
end AW

set_option linter.all false
set_option maxRecDepth 100000
set_option maxHeartbeats 8000000
namespace AW
open PySem PySem.Spec PyProof.Rows L2 Fewest
variable [Tbs]
section
variable {P : Program} {w : World} {K : PySem.W.Frag} {mg : Str → Option Value} {base : Heap}
abbrev k2 (t : Sq) : List L2.Key := [.inl t.1, .inl t.2]
theorem k2_inj : ∀ a b : Sq, k2 a = k2 b → a = b := fun p q h => by
  obtain ⟨a, b⟩ := p
  obtain ⟨x, y⟩ := q
  simp only [k2, List.cons.injEq, Sum.inl.injEq, and_true] at h
  rw [h.1, h.2]
theorem k3_inj' : ∀ a b : T3, k3 a = k3 b → a = b := fun _ _ h => k3_inj h
theorem TF_getD {α : Type} [DecidableEq α] {κ : α → List L2.Key} {F : α → Int} (inj : ∀ a b, κ a = κ b → a = b) {Q : List α} {t : α} (h0 : t ∉ Q → F t = 0) : (lkD (TF κ F Q) (κ t)).getD (.int 0) = .int (F t) := by
  rw [TF_get inj]
  by_cases h : t ∈ Q
  · rw [if_pos h]; rfl
  · rw [if_neg h, h0 h]; rfl
theorem up4 (F : Sq → Int) (q : Sq) (a b c d : Int) (t : Sq) :
    upF (upF (upF (upF F (q.1 + 1, q.2) (F (q.1 + 1, q.2) + a)) (q.1 - 1, q.2) (upF F (q.1 + 1, q.2) (F (q.1 + 1, q.2) + a) (q.1 - 1, q.2) + b)) (q.1, q.2 + 1) (upF (upF F (q.1 + 1, q.2) (F (q.1 + 1, q.2) + a)) (q.1 - 1, q.2) (upF F (q.1 + 1, q.2) (F (q.1 + 1, q.2) + a) (q.1 - 1, q.2) + b) (q.1, q.2 + 1) + c)) (q.1, q.2 - 1) (upF (upF (upF F (q.1 + 1, q.2) (F (q.1 + 1, q.2) + a)) (q.1 - 1, q.2) (upF F (q.1 + 1, q.2) (F (q.1 + 1, q.2) + a) (q.1 - 1, q.2) + b)) (q.1, q.2 + 1) (upF (upF F (q.1 + 1, q.2) (F (q.1 + 1, q.2) + a)) (q.1 - 1, q.2) (upF F (q.1 + 1, q.2) (F (q.1 + 1, q.2) + a) (q.1 - 1, q.2) + b) (q.1, q.2 + 1) + c) (q.1, q.2 - 1) + d) t
      = F t + (if t = (q.1 + 1, q.2) then a else 0) + (if t = (q.1 - 1, q.2) then b else 0) + (if t = (q.1, q.2 + 1) then c else 0) + (if t = (q.1, q.2 - 1) then d else 0) := by
  have n12 : ¬ (q.1 - 1, q.2) = (q.1 + 1, q.2) := fun z => by have := congrArg Prod.fst z; dsimp only at this; omega
  have n13 : ¬ (q.1, q.2 + 1) = (q.1 + 1, q.2) := fun z => by have := congrArg Prod.fst z; dsimp only at this; omega
  have n14 : ¬ (q.1, q.2 - 1) = (q.1 + 1, q.2) := fun z => by have := congrArg Prod.fst z; dsimp only at this; omega
  have n23 : ¬ (q.1, q.2 + 1) = (q.1 - 1, q.2) := fun z => by have := congrArg Prod.fst z; dsimp only at this; omega
  have n24 : ¬ (q.1, q.2 - 1) = (q.1 - 1, q.2) := fun z => by have := congrArg Prod.fst z; dsimp only at this; omega
  have n34 : ¬ (q.1, q.2 - 1) = (q.1, q.2 + 1) := fun z => by have := congrArg Prod.snd z; dsimp only at this; omega
  unfold upF
  simp only [n12, n13, n14, n23, n24, n34, if_false]
  by_cases h4 : t = (q.1, q.2 - 1)
  · subst h4; simp only [n14, n24, n34, if_false, if_true]; omega
  by_cases h3 : t = (q.1, q.2 + 1)
  · subst h3; simp only [n13, n23, Ne.symm n34, if_false, if_true, h4]; omega
  by_cases h2 : t = (q.1 - 1, q.2)
  · subst h2; simp only [n12, if_false, if_true, h3, h4]; omega
  by_cases h1 : t = (q.1 + 1, q.2)
  · subst h1; simp only [if_false, if_true, h2, h3, h4]; omega
  simp only [h1, h2, h3, h4, if_false]; omega
theorem ct_cast (a : Int) (s : Nat) (q t : Sq) (v : Nat) : a + (if t = (q.1 + 1, q.2) then (v : Int) else 0) + (if t = (q.1 - 1, q.2) then (v : Int) else 0) + (if t = (q.1, q.2 + 1) then ((shP s q.1 v : Nat) : Int) else 0) + (if t = (q.1, q.2 - 1) then ((shP s (-q.1) v : Nat) : Int) else 0) = a + ((ctS s q v t : Nat) : Int) := by
  unfold ctS
  by_cases h1 : t = (q.1 + 1, q.2) <;> by_cases h2 : t = (q.1 - 1, q.2) <;> by_cases h3 : t = (q.1, q.2 + 1) <;> by_cases h4 : t = (q.1, q.2 - 1) <;> simp only [h1, h2, h3, h4, if_true, if_false] <;> (try push_cast) <;> (repeat' split) <;> omega
theorem shP_lt {s v : Nat} {x : Int} (hx : x < 0) : ((v : Nat) : Int) / 2 ^ (-x * (s : Int)).toNat = ((shP s x v : Nat) : Int) ∧ ((v : Nat) : Int) * 2 ^ (-x * (s : Int)).toNat = ((shP s (-x) v : Nat) : Int) := by
  have e : (-x * (s : Int)).toNat = s * (-x).toNat := by
    obtain ⟨n, rfl⟩ : ∃ n : Nat, x = -(n : Int) := ⟨(-x).toNat, by omega⟩
    rw [Int.neg_neg, Int.toNat_natCast, ← Int.natCast_mul, Int.toNat_natCast, Nat.mul_comm]
  unfold shP
  rw [e, if_pos hx, if_neg (by omega)]
  push_cast
  exact ⟨rfl, rfl⟩
theorem shP_ge {s v : Nat} {x : Int} (hx : ¬ x < 0) : ((v : Nat) : Int) * 2 ^ (x * (s : Int)).toNat = ((shP s x v : Nat) : Int) ∧ ((v : Nat) : Int) / 2 ^ (x * (s : Int)).toNat = ((shP s (-x) v : Nat) : Int) := by
  obtain ⟨n, rfl⟩ : ∃ n : Nat, x = (n : Int) := ⟨x.toNat, by omega⟩
  have e : ((n : Int) * (s : Int)).toNat = s * n := by rw [← Int.natCast_mul, Int.toNat_natCast, Nat.mul_comm]
  unfold shP
  rw [e, if_neg hx]
  refine ⟨by push_cast; rw [Int.toNat_natCast], ?_⟩
  by_cases h : n = 0
  · subst h
    simp
  · rw [if_pos (by omega)]
    push_cast
    rw [Int.neg_neg, Int.toNat_natCast]
/-- a pack of the places L, its squares Q -/
structure Pk (L : List T3) (Q : List Sq) : Prop where
  nd : Q.Nodup
  me : ∀ t, t ∈ Q ↔ ∃ p ∈ L, sqT p = t
abbrev PVi (s D : Nat) (L : List T3) (t : Sq) : Int := ((PV s D t L : Nat) : Int)
abbrev pkD (lk : Bool) (s d : Nat) (L : List T3) (Q : List Sq) : D := dtD lk (TF k2 (PVi s d L) Q)
/-- what has come from the first i squares -/
def stE (s D : Nat) (L : List T3) (Q : List Sq) (i : Nat) (t : Sq) : Nat := sm (fun p => sm (fun r => if sqT r = t then wt s D r else 0) (nbS p)) (prc sqT (Q.take i) L)
theorem stE_next {s D : Nat} {L : List T3} {Q : List Sq} {i : Nat} {q : Sq} (nd : Q.Nodup) (h : Q[i]? = some q) (h0 : ∀ p ∈ L, ∀ r ∈ nbS p, 0 ≤ (D : Int) + r.2.2) (t : Sq) : stE s D L Q (i + 1) t = stE s D L Q i t + ctS s q (PV s D q L) t := by
  unfold stE
  rw [sm_next _ L nd h, ct_eq s D q t (M := L.filter fun p => decide (sqT p = q)) (fun p hp => of_decide_eq_true (List.mem_filter.mp hp).2) (fun p hp => h0 p (List.mem_filter.mp hp).1), ← gw_filt]
theorem stE_all {s D : Nat} {L : List T3} {Q : List Sq} (h : Pk L Q) (t : Sq) : stE s D L Q Q.length t = PV s D t (L.flatMap nbS) := by
  unfold stE
  rw [List.take_length, sm_all _ fun p hp => (h.me _).mpr ⟨p, hp, rfl⟩, ← sm_flat]
  rfl
def NB (q t : Sq) : Prop := t = (q.1 + 1, q.2) ∨ t = (q.1 - 1, q.2) ∨ t = (q.1, q.2 + 1) ∨ t = (q.1, q.2 - 1)
theorem nb_sq {p : T3} {t : Sq} : (∃ r ∈ nbS p, sqT r = t) ↔ NB (sqT p) t := by
  unfold nbS sqT NB
  simp only [List.mem_cons, List.not_mem_nil, or_false]
  constructor
  · rintro ⟨r, (rfl | rfl | rfl | rfl), rfl⟩
    · exact .inl rfl
    · exact .inr (.inr (.inl rfl))
    · exact .inr (.inl rfl)
    · exact .inr (.inr (.inr rfl))
  · rintro (rfl | rfl | rfl | rfl)
    · exact ⟨_, .inl rfl, rfl⟩
    · exact ⟨_, .inr (.inr (.inl rfl)), rfl⟩
    · exact ⟨_, .inr (.inl rfl), rfl⟩
    · exact ⟨_, .inr (.inr (.inr rfl)), rfl⟩
theorem pk_step {L : List T3} {Q Q' : List Sq} (h : Pk L Q) (nd : Q'.Nodup) (hm : ∀ t, t ∈ Q' ↔ ∃ q ∈ Q, NB q t) : Pk (L.flatMap nbS) Q' := by
  refine ⟨nd, fun t => (hm t).trans ⟨fun ⟨q, hq, hn⟩ => ?_, fun ⟨r, hr, e⟩ => ?_⟩⟩
  · obtain ⟨p, hp, rfl⟩ := (h.me q).mp hq
    obtain ⟨r, hr, e⟩ := nb_sq.mpr hn
    exact ⟨r, List.mem_flatMap.mpr ⟨p, hp, hr⟩, e⟩
  · obtain ⟨p, hp, hr⟩ := List.mem_flatMap.mp hr
    exact ⟨sqT p, (h.me _).mpr ⟨p, hp, rfl⟩, nb_sq.mp ⟨r, hr, e⟩⟩
theorem nb_adQ {Q : List Sq} {q t : Sq} : t ∈ adQ (adQ (adQ (adQ Q (q.1 + 1, q.2)) (q.1 - 1, q.2)) (q.1, q.2 + 1)) (q.1, q.2 - 1) ↔ t ∈ Q ∨ NB q t := by
  unfold NB
  rw [adQ_mem, adQ_mem, adQ_mem, adQ_mem]
  constructor
  · rintro ((((h | h) | h) | h) | h)
    · exact .inl h
    · exact .inr (.inl h)
    · exact .inr (.inr (.inl h))
    · exact .inr (.inr (.inr (.inl h)))
    · exact .inr (.inr (.inr (.inr h)))
  · rintro (h | h | h | h | h)
    · exact .inl (.inl (.inl (.inl h)))
    · exact .inl (.inl (.inl (.inr h)))
    · exact .inl (.inl (.inr h))
    · exact .inl (.inr h)
    · exact .inr h
end
end AW

set_option linter.all false
set_option maxRecDepth 100000
set_option maxHeartbeats 8000000
namespace AW
open PySem PySem.Spec PyProof.Rows L2 Fewest
variable [Tbs]
section
variable {P : Program} {w : World} {K : PySem.W.Frag} {mg : Str → Option Value} {base : Heap}
theorem shj2 (x : Int) (s j : Nat) (h : x * (s : Int) = (j : Int)) (hx : x.natAbs ≤ 1000) (hs : s ≤ 1000) : j ≤ 100000000 := by
  have e : j = x.natAbs * s := by
    have := congrArg Int.natAbs h
    rw [Int.natAbs_mul, Int.natAbs_natCast, Int.natAbs_natCast] at this
    exact this.symm
  rw [e]
  exact Nat.le_trans (Nat.mul_le_mul hx hs) (by decide)
theorem shj1 (x : Int) (s j : Nat) (h : -x * (s : Int) = (j : Int)) (hx : x.natAbs ≤ 1000) (hs : s ≤ 1000) : j ≤ 100000000 := shj2 (-x) s j h (by omega) hs
theorem lk_pk {b f : Bool} {s d : Nat} {L : List T3} {Q : List Sq} (h : (b || f) = true) : lkOk f (pkD b s d L Q) = true := by
  show ((b || f) && lkOkL f ((TF k2 (PVi s d L) Q).map (·.2))) = true
  rw [h, TF_ints]; rfl
def pr_step_further (T : Tx K mg) : Pr := fun ds B k e => ∃ (s d : Nat) (L : List T3) (Q : List Sq), ds = [pkD false s d L Q, .int (s : Int)] ∧ Pk L Q ∧ Q.length ≤ 2000000 ∧ s ≤ 1000 ∧ (∀ q ∈ Q, q.1.natAbs ≤ 1000) ∧ (∀ t, Bd 3000 (PVi s d L t)) ∧ (∀ p ∈ L, ∀ r ∈ nbS p, 0 ≤ (d : Int) + r.2.2) ∧ ∀ Q', Pk (L.flatMap nbS) Q' → Q'.length ≤ 4 * Q.length → k (pkD false s d (L.flatMap nbS) Q') B
theorem okD_step_further (T : Tx K mg) : FnOk P w K mg base (L2.CX P w) 1 T.a_step_further T.d_step_further P_step_further (spD K (pr_step_further T)) := by
  refine T.F_step_further.okX sc_step_further (spD_len fun ds B k e h => by obtain ⟨s, d, L, Q, rfl, hP, hQl, hsl, hQ1b, hbd, h0, hk⟩ := h; rfl) (fun cdv A outer s H vs Q E hr h => ?_)
  have hu := hu_of hr
  obtain ⟨G, ds, B, k, e, hs, hR, ⟨s, d, L, Q, rfl, hP, hQl, hsl, hQ1b, hbd, h0, hk⟩, hK, hX⟩ := h
  refine ⟨_, (pss_cons (ps_set (i := 2) sc_step_further.nd rfl (.inl rfl) pe_dnewT)
 (pss_cons (ps_lock (ps_for (passes_of rfl) rfl (pi_keys (pv 0)) (pg_name (i := 3) sc_step_further.nd rfl (.inl rfl))
 (pss_cons (ps_asg (pv 3) (pg_tup rfl (pgs_cons (pg_name (i := 4) sc_step_further.nd rfl (.inl rfl)) (pgs_cons (pg_name (i := 5) sc_step_further.nd rfl (.inl rfl)) pgs_nil))))
 (pss_cons (ps_set (i := 6) sc_step_further.nd rfl (.inl rfl) (pe_dget hu (pv 0) (pv 3) (fun _ _ => rfl)))
 (pss_cons (ps_if (pt_cmpR op_lt (pv 4) pe_int (nomark _))
 (pss_one (ps_par (i := 7) (j := 8) (by rfl) sc_step_further.nd rfl rfl (by decide) rfl rfl (pa_cons (pe_op op_shr (pv 6) (pe_op op_mulW (pe_un un_neg (pv 4)) (pv 1))) (pa_cons (pe_op op_shlW (pv 6) (pe_op op_mulW (pe_un un_neg (pv 4)) (pv 1))) pa_nil)) (by rfl)))
 (pss_one (ps_par (i := 7) (j := 8) (by rfl) sc_step_further.nd rfl rfl (by decide) rfl rfl (pa_cons (pe_op op_shlW (pv 6) (pe_op op_mulW (pv 4) (pv 1))) (pa_cons (pe_op op_shr (pv 6) (pe_op op_mulW (pv 4) (pv 1))) pa_nil)) (by rfl))))
 (pss_cons (ps_dput hu (pv 2) (pe_tup (pa_cons (pe_op op_add (pv 4) pe_int) (pa_cons (pv 5) pa_nil))) (pe_op op_add (pe_dget2 hu (pv 2) (pe_tup (pa_cons (pe_op op_add (pv 4) pe_int) (pa_cons (pv 5) pa_nil))) pe_int ⟨by rfl, by rfl, by rfl, by rfl⟩) (pv 6)) rfl)
 (pss_cons (ps_dput hu (pv 2) (pe_tup (pa_cons (pe_op op_sub (pv 4) pe_int) (pa_cons (pv 5) pa_nil))) (pe_op op_add (pe_dget2 hu (pv 2) (pe_tup (pa_cons (pe_op op_sub (pv 4) pe_int) (pa_cons (pv 5) pa_nil))) pe_int ⟨by rfl, by rfl, by rfl, by rfl⟩) (pv 6)) rfl)
 (pss_cons (ps_dput hu (pv 2) (pe_tup (pa_cons (pv 4) (pa_cons (pe_op op_add (pv 5) pe_int) pa_nil))) (pe_op op_add (pe_dget2 hu (pv 2) (pe_tup (pa_cons (pv 4) (pa_cons (pe_op op_add (pv 5) pe_int) pa_nil))) pe_int ⟨by rfl, by rfl, by rfl, by rfl⟩) (pv 7)) rfl)
 (pss_one (ps_dput hu (pv 2) (pe_tup (pa_cons (pv 4) (pa_cons (pe_op op_sub (pv 5) pe_int) pa_nil))) (pe_op op_add (pe_dget2 hu (pv 2) (pe_tup (pa_cons (pv 4) (pa_cons (pe_op op_sub (pv 5) pe_int) pa_nil))) pe_int ⟨by rfl, by rfl, by rfl, by rfl⟩) (pv 8)) rfl))))))))))
 (pss_one (ps_ret (pv 2))))), run_body (ρ := [some (pkD false s d L Q), some (.int (s : Int)), none, none, none, none, none, none, none]) hs hR hK hX rfl ?_⟩
  have z2 : 2 ≤ sizeLine := by decide
  have zL : 16000000 < sizeLine := by decide
  have bs : Bd 100 (s : Int) := Nat.lt_of_le_of_lt (show (s : Int).natAbs ≤ 1000 by omega) (Nat.lt_of_lt_of_le (by decide : 1000 < 2 ^ 10) (Nat.pow_le_pow_right (by decide) (by decide)))
  refine wx_own <| wx_seq <| wx_newD0 fun fp => ?_
  refine wx_seq <| wx_for_dt (i := 0) rfl (fun u => ?_) (fun x hx => ?_) fun u => ⟨fun i ρ' O' B' => ∃ (Q' : List Sq) (o3 o4 o5 o6 o7 o8 : Option D), ρ' = [some (.at_ u (pkD true s d L Q)), some (.int (s : Int)), some (.val (.ref fp)), o3, o4, o5, o6, o7, o8] ∧ lkOkE true [o3, o4, o5, o6, o7, o8] = true ∧ O' = [(fp, .dictD (TF k2 (fun t => ((stE s d L Q i t : Nat) : Int)) Q'))] ∧ Q'.Nodup ∧ (∀ t, t ∈ Q' ↔ ∃ q ∈ Q.take i, NB q t) ∧ Q'.length ≤ 4 * i ∧ (∀ t, t ∉ Q' → stE s d L Q i t = 0) ∧ B = B', ⟨[], _, _, _, _, _, _, rfl, rfl, rfl, List.nodup_nil, fun t => ⟨(fun h => nomatch h), fun ⟨q, hq, _⟩ => (nomatch hq)⟩, Nat.le_refl _, fun t _ => ?_, rfl⟩, fun n ρ' O' B' hI => ?_, fun i c ρ' O' B' hc hI => ?_, fun ρ' O' B' hI => ?_⟩
  · show (lkOk false (pkD true s d L Q) && (true && (true && true))) = true
    rw [lk_pk rfl]; rfl
  · have e : x = (fp, .dictD []) := List.mem_singleton.mp hx
    subst e; rfl
  · exact prc_nil _ L
  · obtain ⟨Q', o3, o4, o5, o6, o7, o8, rfl, _⟩ := hI
    rfl
  · obtain ⟨Q', o3, o4, o5, o6, o7, o8, rfl, _, rfl, nd, hm, hl, hz, rfl⟩ := hI
    rw [TF_kss, List.getElem?_map] at hc
    obtain ⟨q, hq, rfl⟩ := Option.map_eq_some_iff.mp hc
    have hqQ := List.mem_of_getElem? hq
    have hi : i < Q.length := (List.getElem?_eq_some_iff.mp hq).1
    have bx : Bd 100 q.1 := Nat.lt_of_le_of_lt (hQ1b q hqQ) (Nat.lt_of_lt_of_le (by decide : 1000 < 2 ^ 10) (Nat.pow_le_pow_right (by decide) (by decide)))
    have bv := hbd q
    have cm1 : CMulW (-q.1) (s : Int) := cmw (bx.neg.mono (by decide)) (bs.mono (by decide))
    have cm2 : CMulW q.1 (s : Int) := cmw (bx.mono (by decide)) (bs.mono (by decide))
    have sh : ∀ (z : Int) (j : Nat), Bd 3000 z → j ≤ 100000000 → CShl z (j : Int) := fun z j hz hj => shl_ok (n := 3000) hz (by omega)
    have sj : ∀ z : Int, 0 ≤ z → Bd 200 z → True := fun _ _ _ => trivial
    refine wg_name ?_
    refine wx_seq <| wx_ws <| ws_asg <| we_wk <| we_var rfl ⟨_, .kt _, wg_tup rfl <| wgs_cons <| wg_name <| wgs_cons <| wg_name <| wgs_nil ?_⟩
    refine wx_seq <| wx_ws <| ws_set <| we_dgetT <| we_varA rfl ⟨true, _, rfl, we_var rfl ⟨k2 q, .int (PVi s d L q), rfl, by rw [TF_get k2_inj, if_pos hqQ], ?_⟩⟩
    refine wx_cut (fun ρ' O' B' => ρ' = [some (.at_ u (pkD true s d L Q)), some (.int (s : Int)), some (.val (.ref fp)), some (.kt (k2 q)), some (.int q.1), some (.int q.2), some (.int (PVi s d L q)), some (.int ((shP s q.1 (PV s d q L) : Nat) : Int)), some (.int ((shP s (-q.1) (PV s d q L) : Nat) : Int))] ∧ O' = [(fp, .dictD (TF k2 (fun t => ((stE s d L Q i t : Nat) : Int)) Q'))] ∧ B = B') ?_ ?_
    · refine wx_ws <| ws_if <| wt_test <| we_op <| we_var rfl <| we_int <| ro_b0 ⟨_, rfl, fun hx => ?_, fun hx => ?_⟩
      · have hx := of_decide_eq_true hx
        obtain ⟨e1, e2⟩ := shP_lt (s := s) (v := PV s d q L) hx
        have nn : 0 ≤ -q.1 * (s : Int) := Int.mul_nonneg (by omega) (by omega)
        refine ws_par <| wa_cons <| we_op <| we_var rfl <| we_op <| we_neg <| we_var rfl ⟨_, rfl, we_var rfl <| ro_i cm1 <| ro_i nn ?_⟩
        refine wa_cons <| we_op <| we_var rfl <| we_op <| we_neg <| we_var rfl ⟨_, rfl, we_var rfl <| ro_i cm1 <| ro_i ?_ <| wa_nil ⟨_, _, rfl, ?_⟩⟩
        · obtain ⟨j, hj⟩ : ∃ j : Nat, -q.1 * (s : Int) = (j : Int) := ⟨(-q.1 * (s : Int)).toNat, by omega⟩
          rw [hj]
          exact sh _ j bv (by have := hQ1b q hqQ; exact shj1 q.1 s j hj this hsl)
        · rw [e1, e2]
          exact ⟨rfl, rfl, rfl⟩
      · have hx := of_decide_eq_false hx
        obtain ⟨e1, e2⟩ := shP_ge (s := s) (v := PV s d q L) hx
        have nn : 0 ≤ q.1 * (s : Int) := Int.mul_nonneg (by omega) (by omega)
        refine ws_par <| wa_cons <| we_op <| we_var rfl <| we_op <| we_var rfl <| we_var rfl <| ro_i cm2 <| ro_i ?_ <| wa_cons <| we_op <| we_var rfl <| we_op <| we_var rfl <| we_var rfl <| ro_i cm2 <| ro_i nn <| wa_nil ⟨_, _, rfl, ?_⟩
        · obtain ⟨j, hj⟩ : ∃ j : Nat, q.1 * (s : Int) = (j : Int) := ⟨(q.1 * (s : Int)).toNat, by omega⟩
          rw [hj]
          exact sh _ j bv (by have := hQ1b q hqQ; exact shj2 q.1 s j hj this hsl)
        · rw [e1, e2]
          exact ⟨rfl, rfl, rfl⟩
    rintro _ _ _ ⟨rfl, rfl, rfl⟩
    have hl1 : ∀ (F : Sq → Int) (R : List Sq), R.length ≤ 4 * i + 3 → (TF k2 F R).length < sizeLine := fun F R h => by rw [TF_len]; omega
    have a1 := adQ_len Q' (q.1 + 1, q.2)
    have a2 := adQ_len (adQ Q' (q.1 + 1, q.2)) (q.1 - 1, q.2)
    have a3 := adQ_len (adQ (adQ Q' (q.1 + 1, q.2)) (q.1 - 1, q.2)) (q.1, q.2 + 1)
    have a4 := adQ_len (adQ (adQ (adQ Q' (q.1 + 1, q.2)) (q.1 - 1, q.2)) (q.1, q.2 + 1)) (q.1, q.2 - 1)
    have hz0 : ∀ (F : Sq → Int) (R : List Sq) (t : Sq) (v : Int), (∀ t, t ∉ R → F t = 0) → ∀ u, u ∉ adQ R t → upF F t v u = 0 := fun F R t v h u hu => by
      rw [adQ_mem] at hu
      unfold upF
      rw [if_neg fun z => hu (.inr z)]
      exact h u fun z => hu (.inl z)
    have z0 : ∀ t, t ∉ Q' → ((stE s d L Q i t : Nat) : Int) = 0 := fun t ht => by rw [hz t ht]; rfl
    have z1 := hz0 _ _ (q.1 + 1, q.2) (((stE s d L Q i (q.1 + 1, q.2) : Nat) : Int) + PVi s d L q) z0
    have z2' := hz0 _ _ (q.1 - 1, q.2) (upF (fun t => ((stE s d L Q i t : Nat) : Int)) (q.1 + 1, q.2) (((stE s d L Q i (q.1 + 1, q.2) : Nat) : Int) + PVi s d L q) (q.1 - 1, q.2) + PVi s d L q) z1
    refine wx_seq <| wx_putD (n := 0) (i := 2) rfl rfl <| weo_op <| weo_get2 (n := 0) (i := 2) rfl rfl <| we_kt <| wa_cons <| we_op <| we_var rfl <| we_int <| ro_i0 <| wa_cons <| we_var rfl <| wa_nil ⟨k2 (q.1 + 1, q.2), rfl, z2, _, rfl, we_int ?_⟩
    rw [TF_getD k2_inj (z0 _)]
    refine weo_we <| we_var rfl <| ro_i0 <| we_kt <| wa_cons <| we_op <| we_var rfl <| we_int <| ro_i0 <| wa_cons <| we_var rfl <| wa_nil ⟨k2 (q.1 + 1, q.2), rfl, z2, k2 (q.1 + 1, q.2), rfl, hl1 _ _ (by omega), ?_⟩
    rw [TF_put k2_inj]
    refine wx_seq <| wx_putD (n := 0) (i := 2) rfl rfl <| weo_op <| weo_get2 (n := 0) (i := 2) rfl rfl <| we_kt <| wa_cons <| we_op <| we_var rfl <| we_int <| ro_i0 <| wa_cons <| we_var rfl <| wa_nil ⟨k2 (q.1 - 1, q.2), rfl, z2, _, rfl, we_int ?_⟩
    rw [TF_getD k2_inj (z1 _)]
    refine weo_we <| we_var rfl <| ro_i0 <| we_kt <| wa_cons <| we_op <| we_var rfl <| we_int <| ro_i0 <| wa_cons <| we_var rfl <| wa_nil ⟨k2 (q.1 - 1, q.2), rfl, z2, k2 (q.1 - 1, q.2), rfl, hl1 _ _ (by omega), ?_⟩
    rw [TF_put k2_inj]
    refine wx_seq <| wx_putD (n := 0) (i := 2) rfl rfl <| weo_op <| weo_get2 (n := 0) (i := 2) rfl rfl <| we_kt <| wa_cons <| we_var rfl <| wa_cons <| we_op <| we_var rfl <| we_int <| ro_i0 <| wa_nil ⟨k2 (q.1, q.2 + 1), rfl, z2, _, rfl, we_int ?_⟩
    rw [TF_getD k2_inj (z2' _)]
    refine weo_we <| we_var rfl <| ro_i0 <| we_kt <| wa_cons <| we_var rfl <| wa_cons <| we_op <| we_var rfl <| we_int <| ro_i0 <| wa_nil ⟨k2 (q.1, q.2 + 1), rfl, z2, k2 (q.1, q.2 + 1), rfl, hl1 _ _ (by omega), ?_⟩
    rw [TF_put k2_inj]
    refine wx_putD (n := 0) (i := 2) rfl rfl <| weo_op <| weo_get2 (n := 0) (i := 2) rfl rfl <| we_kt <| wa_cons <| we_var rfl <| wa_cons <| we_op <| we_var rfl <| we_int <| ro_i0 <| wa_nil ⟨k2 (q.1, q.2 - 1), rfl, z2, _, rfl, we_int ?_⟩
    rw [TF_getD k2_inj (hz0 _ _ _ _ z2' _)]
    refine weo_we <| we_var rfl <| ro_i0 <| we_kt <| wa_cons <| we_var rfl <| wa_cons <| we_op <| we_var rfl <| we_int <| ro_i0 <| wa_nil ⟨k2 (q.1, q.2 - 1), rfl, z2, k2 (q.1, q.2 - 1), rfl, hl1 _ _ (by omega), ?_⟩
    rw [TF_put k2_inj]
    have hF : ∀ t, _ = ((stE s d L Q (i + 1) t : Nat) : Int) := fun t => (up4 (fun t => ((stE s d L Q i t : Nat) : Int)) q (PVi s d L q) (PVi s d L q) ((shP s q.1 (PV s d q L) : Nat) : Int) ((shP s (-q.1) (PV s d q L) : Nat) : Int) t).trans (by
      rw [stE_next hP.nd hq h0, Int.natCast_add]
      exact ct_cast _ s q t (PV s d q L))
    refine ⟨adQ (adQ (adQ (adQ Q' (q.1 + 1, q.2)) (q.1 - 1, q.2)) (q.1, q.2 + 1)) (q.1, q.2 - 1), _, _, _, _, _, _, rfl, rfl, ?_, adQ_nd (adQ_nd (adQ_nd (adQ_nd nd _) _) _) _, fun t => ?_, by omega, fun t ht => ?_, rfl⟩
    · show [_] = [_]
      rw [TF_congr fun t _ => hF t]
    · rw [nb_adQ, hm t, List.take_add_one, hq, Option.toList_some]
      constructor
      · rintro (⟨q', h1, h2⟩ | h)
        · exact ⟨q', List.mem_append_left _ h1, h2⟩
        · exact ⟨q, List.mem_append_right _ (List.mem_singleton.mpr rfl), h⟩
      · rintro ⟨q', h1, h2⟩
        rcases List.mem_append.mp h1 with h1 | h1
        · exact .inl ⟨q', h1, h2⟩
        · rw [List.mem_singleton.mp h1] at h2; exact .inr h2
    · rw [stE_next hP.nd hq h0]
      have hn : ¬ NB q t := fun z => ht (nb_adQ.mpr (.inr z))
      have ho : t ∉ Q' := fun z => ht (nb_adQ.mpr (.inl z))
      unfold NB at hn
      unfold ctS
      rw [hz t ho, if_neg fun z => hn (.inl z), if_neg fun z => hn (.inr (.inl z)), if_neg fun z => hn (.inr (.inr (.inl z))), if_neg fun z => hn (.inr (.inr (.inr z)))]
  · obtain ⟨Q', o3, o4, o5, o6, o7, o8, rfl, hlk, rfl, nd, hm, hl, hz, rfl⟩ := hI
    rw [TF_kss, List.length_map] at hm hl hz ⊢
    rw [List.take_length] at hm
    refine ⟨?_, fun x hx => ?_, ?_⟩
    · show (lkOk true (pkD true s d L Q) && (true && (true && lkOkE true [o3, o4, o5, o6, o7, o8]))) = true
      rw [lk_pk rfl, hlk]; rfl
    · have e := List.mem_singleton.mp hx
      subst e
      exact TF_ints _ _
    · refine wx_tellDD (i := 2) rfl <| wx_ws <| ws_ret <| we_var rfl ?_
      rw [TF_congr (G := PVi s d (L.flatMap nbS)) fun t _ => by show ((stE s d L Q Q.length t : Nat) : Int) = _; rw [stE_all hP]]
      exact hk Q' (pk_step hP nd hm) hl
end
end AW

set_option linter.all false
set_option maxRecDepth 100000
set_option maxHeartbeats 8000000
namespace AW
open PySem PySem.Spec PyProof.Rows L2 Fewest
variable [Tbs]
section
variable {P : Program} {w : World} {K : PySem.W.Frag} {mg : Str → Option Value} {base : Heap}
theorem nb_mv {p r : T3} : r ∈ nbS p ↔ ∃ c ∈ chS "enws", r = mvS c p := by
  rw [chS_enws]
  simp only [List.mem_cons, List.not_mem_nil, or_false, exists_eq_or_imp, exists_eq_left, mv_e, mv_n, mv_w, mv_s, Int.mul_one]
  unfold nbS
  simp only [List.mem_cons, List.not_mem_nil, or_false, Int.sub_eq_add_neg]
theorem Wks_st : ∀ {n : Nat} {p : T3}, p ∈ Wks n → stF p ≤ n ∧ (n - stF p) % 2 = 0
  | 0, p, h => by
    have e : p = (0, 0, 0) := List.mem_singleton.mp h
    subst e
    rw [stF_home.mpr rfl]; decide
  | n + 1, p, h => by
    obtain ⟨q, hq, hp⟩ := List.mem_flatMap.mp h
    obtain ⟨h1, h2⟩ := Wks_st hq
    obtain ⟨c, hc, rfl⟩ := nb_mv.mp hp
    push_cast
    rcases stF_mv (p := q) hc with e | e <;> rw [e] <;> omega
theorem Wks_ar {n : Nat} {p : T3} (h : p ∈ Wks n) : 4 * ab p.2.2 ≤ (n : Int) * n ∧ ab p.1 + ab p.2.1 ≤ n := by
  have hn := (Wks_st h).1
  have hs := stF_st p
  obtain ⟨a, b, ⟨h1, h2, h3⟩, h4⟩ := Least.has hs
  obtain ⟨x, y, z⟩ := p
  have x0 : 0 ≤ ab x := by unfold ab; omega
  have y0 : 0 ≤ ab y := by unfold ab; omega
  have h1 : ab x ≤ a := h1
  have h2 : ab y ≤ b := h2
  have h3 : ab (2 * z - x * y) + ab x * ab y ≤ 2 * (a * b) := h3
  have h4 : stF (x, y, z) = 2 * (a + b) - ab x - ab y := h4
  have g4 : ab (x * y) = ab x * ab y := by
    have : ∀ i : Int, ab i = (i.natAbs : Int) := fun i => by unfold ab; omega
    rw [this, this, this, Int.natAbs_mul]; push_cast; rfl
  have hz : ab z ≤ a * b := by
    rw [← g4] at h3
    generalize x * y = v at h3
    generalize a * b = c at h3 ⊢
    unfold ab at h3 ⊢
    omega
  have s1 : 4 * (a * b) ≤ (a + b) * (a + b) := by
    have : 0 ≤ (a - b) * (a - b) := by
      rcases Int.le_total 0 (a - b) with h | h
      · exact Int.mul_nonneg h h
      · exact Int.mul_nonneg_of_nonpos_of_nonpos h h
    have e : (a - b) * (a - b) = (a + b) * (a + b) - 4 * (a * b) := by grind
    omega
  have s2 : (a + b) * (a + b) ≤ (n : Int) * n := Int.mul_le_mul (by omega) (by omega) (by omega) (by omega)
  exact ⟨by show 4 * ab z ≤ _; omega, by show ab x + ab y ≤ _; omega⟩
theorem cw_zero {n : Nat} {p : T3} (h : ¬ (stF p ≤ n ∧ (n - stF p) % 2 = 0)) : cw n p = 0 := by
  refine Classical.byContradiction fun z => h ?_
  exact Wks_st (cw_pos.mp z)
theorem wt_le {s d : Nat} {p : T3} (h : p.2.2 ≤ d) : wt s d p ≤ 2 ^ (s * (2 * d)) := by
  unfold wt
  refine Nat.pow_le_pow_right (by decide) (Nat.mul_le_mul_left _ ?_)
  omega
theorem PV_le {s d : Nat} {L : List T3} (h : ∀ p ∈ L, p.2.2 ≤ d) (t : Sq) : PV s d t L ≤ L.length * 2 ^ (s * (2 * d)) := by
  refine sm_le fun p hp => ?_
  split
  · exact wt_le (h p hp)
  · exact Nat.zero_le _
/-- the numbers of walks_by_halves -/
structure Hv (n d : Nat) : Prop where
  hn : n ≤ 20
  hd : d = (n - n / 2) * (n - n / 2) / 4
theorem Hv.ar {n d m : Nat} (h : Hv n d) (hm : m ≤ n - n / 2) {p : T3} (hp : p ∈ Wks m) : ab p.2.2 ≤ d := by
  have := (Wks_ar hp).1
  have h2 : m * m ≤ (n - n / 2) * (n - n / 2) := Nat.mul_le_mul hm hm
  have h3 := h.hd
  have h4 : ((m : Int) * m) = ((m * m : Nat) : Int) := by push_cast; rfl
  rw [h4] at this
  generalize (n - n / 2) * (n - n / 2) = M at h2 h3
  omega
theorem Hv.d25 {n d : Nat} (h : Hv n d) : d ≤ 25 := by
  rw [h.hd]
  have : (n - n / 2) * (n - n / 2) ≤ 10 * 10 := Nat.mul_le_mul (by have := h.hn; omega) (by have := h.hn; omega)
  omega
theorem Hv.bd {n d m : Nat} (h : Hv n d) (hm : m ≤ n - n / 2) (t : Sq) : Bd 2200 (PVi (2 * n + 1) d (Wks m) t) := by
  have h1 := PV_le (s := 2 * n + 1) (d := d) (L := Wks m) (fun p hp => by have := h.ar hm hp; unfold ab at this; omega) t
  have hn := h.hn
  have hd := h.d25
  rw [Wks_len] at h1
  refine Nat.lt_of_le_of_lt (show (PVi (2 * n + 1) d (Wks m) t).natAbs ≤ _ from h1) ?_
  have h2 : 4 ^ m ≤ 4 ^ 10 := Nat.pow_le_pow_right (by decide) (by omega)
  have h3 : 2 ^ ((2 * n + 1) * (2 * d)) ≤ 2 ^ (41 * 50) := Nat.pow_le_pow_right (by decide) (Nat.mul_le_mul (by omega) (by omega))
  refine Nat.lt_of_le_of_lt (Nat.mul_le_mul h2 h3) ?_
  rw [show (4 : Nat) ^ 10 = 2 ^ 20 by decide, ← Nat.pow_add]
  exact Nat.pow_lt_pow_right (by decide) (by decide)
theorem Hv.sq {n d m : Nat} (h : Hv n d) (hm : m ≤ n - n / 2) {Q : List Sq} (hP : Pk (Wks m) Q) {q : Sq} (hq : q ∈ Q) : q.1.natAbs ≤ 20 ∧ q.2.natAbs ≤ 20 := by
  obtain ⟨p, hp, rfl⟩ := (hP.me q).mp hq
  have := (Wks_ar hp).2
  have hn := h.hn
  unfold ab at this
  show p.1.natAbs ≤ 20 ∧ p.2.1.natAbs ≤ 20
  omega
theorem bdS {x : Int} {c : Nat} (h : x.natAbs ≤ c) (hc : c < 1024 := by decide) : Bd 100 x := Nat.lt_of_le_of_lt h (Nat.lt_of_lt_of_le (show c < 2 ^ 10 from hc) (Nat.pow_le_pow_right (by decide) (by decide : 10 ≤ 100)))
def jnT (P : T3) (L1 L2 : List T3) (t : Sq) : Nat := sm (fun p => if sqT p = t then jnS P L2 p else 0) L1
def pr_joined_walks (T : Tx K mg) : Pr := fun ds B k e => ∃ (s d : Nat) (L1 L2 : List T3) (Q1 Q2 : List Sq) (p : T3), ds = [pkD false s d L1 Q1, pkD true s d L2 Q2, plT T (p.1, p.2.1, p.2.2 + 2 * (d : Int)), .int (s : Int)] ∧ Pk L1 Q1 ∧ Pk L2 Q2 ∧ L1.length * L2.length < 2 ^ s ∧ s ≤ 1000 ∧ d ≤ 1000 ∧
  (∀ p ∈ L1, 0 ≤ (d : Int) + p.2.2) ∧ (∀ p ∈ L2, 0 ≤ (d : Int) + p.2.2) ∧ (∀ t, Bd 3000 (PVi s d L1 t)) ∧ (∀ t, Bd 3000 (PVi s d L2 t)) ∧ (∀ q ∈ Q1, q.1.natAbs ≤ 20 ∧ q.2.natAbs ≤ 20) ∧ (Bd 100 p.1 ∧ Bd 100 p.2.1 ∧ Bd 100 p.2.2) ∧ k (.int ((sm (jnS p L2) L1 % 2 ^ s : Nat) : Int)) B
theorem okD_joined_walks (T : Tx K mg) : FnOk P w K mg base (L2.CX P w) 1 T.a_joined_walks T.d_joined_walks P_joined_walks (spD K (pr_joined_walks T)) := by
  refine T.F_joined_walks.okX sc_joined_walks (spD_len fun ds B k e h => by obtain ⟨s, d, L1, L2, Q1, Q2, p, rfl, hP1, hP2, hLL, hsl, hdl, ha1, ha2, hb1, hb2, hq1, hp, hk⟩ := h; rfl) (fun cdv A outer s H vs Q E hr h => ?_)
  have hu := hu_of hr
  obtain ⟨G, ds, B, k, e, hs, hR, ⟨s, d, L1, L2, Q1, Q2, p, rfl, hP1, hP2, hLL, hsl, hdl, ha1, ha2, hb1, hb2, hq1, hp, hk⟩, hK, hX⟩ := h
  refine ⟨_, (pss_cons (ps_set (i := 4) sc_joined_walks.nd rfl (.inl rfl) pe_int)
 (pss_cons (ps_lock (ps_for (passes_of rfl) rfl (pi_keys (pv 0)) (pg_name (i := 5) sc_joined_walks.nd rfl (.inl rfl))
 (pss_cons (ps_asg (pv 5) (pg_tup rfl (pgs_cons (pg_name (i := 6) sc_joined_walks.nd rfl (.inl rfl)) (pgs_cons (pg_name (i := 7) sc_joined_walks.nd rfl (.inl rfl)) pgs_nil))))
 (pss_cons (ps_par (i := 8) (j := 9) (by rfl) sc_joined_walks.nd rfl rfl (by decide) rfl rfl (pa_cons (pe_op op_sub (pe_fld (pv 2) rfl) (pv 6)) (pa_cons (pe_op op_sub (pe_fld (pv 2) rfl) (pv 7)) pa_nil)) (by rfl))
 (pss_cons (ps_set (i := 10) sc_joined_walks.nd rfl (.inl rfl) (pe_op op_sub (pe_fld (pv 2) rfl) (pe_op op_mulW (pv 6) (pv 9))))
 (pss_one (ps_if (PW.pt (pw_and (pt_cmpR op_ge (pv 10) pe_int (nomark _)) (pw_and1 (pt_cmp (pc_din hu (pe_tup (pa_cons (pv 8) (pa_cons (pv 9) pa_nil))) (pv 1))))))
 (pss_one (ps_set (i := 4) sc_joined_walks.nd rfl (.inl rfl) (pe_op op_add (pv 4) (pe_op op_shr (pe_op op_mulW (pe_dget hu (pv 0) (pv 5) (fun _ _ => rfl)) (pe_dget hu (pv 1) (pe_tup (pa_cons (pv 8) (pa_cons (pv 9) pa_nil))) (fun _ _ => rfl))) (pe_op op_mulW (pv 10) (pv 3))))))
 pss_nil)))))))
 (pss_one (ps_ret (pe_op op_andM (pv 4) (pe_op op_sub (pe_op op_shlW pe_int (pv 3)) pe_int)))))), run_body (ρ := [some (pkD false s d L1 Q1), some (pkD true s d L2 Q2), some (plT T (p.1, p.2.1, p.2.2 + 2 * (d : Int))), some (.int (s : Int)), none, none, none, none, none, none, none]) hs hR hK hX rfl ?_⟩
  have z2 : 2 ≤ sizeLine := by decide
  have bs : Bd 100 (s : Int) := Nat.lt_of_le_of_lt (show (s : Int).natAbs ≤ 1000 by omega) (Nat.lt_of_lt_of_le (by decide : 1000 < 2 ^ 10) (Nat.pow_le_pow_right (by decide) (by decide)))
  have bd2 : Bd 100 (2 * (d : Int)) := Nat.lt_of_le_of_lt (show (2 * (d : Int)).natAbs ≤ 2000 by omega) (Nat.lt_of_lt_of_le (by decide : 2000 < 2 ^ 11) (Nat.pow_le_pow_right (by decide) (by decide)))
  refine ws_seq <| ws_set <| we_int ?_
  refine ws_cut (fun ρ' B' => (∃ (τ : Nat) (o5 o6 o7 o8 o9 o10 : Option D), ρ' = [some (pkD false s d L1 Q1), some (pkD true s d L2 Q2), some (plT T (p.1, p.2.1, p.2.2 + 2 * (d : Int))), some (.int (s : Int)), some (.int (τ : Int)), o5, o6, o7, o8, o9, o10] ∧ τ % 2 ^ s = sm (jnS p L2) L1 % 2 ^ s) ∧ B = B') ?_ ?_
  · refine ws_for_dt (i := 0) rfl (fun u => ?_) fun u => ⟨fun i ρ' B' => (∃ (τ : Nat) (o5 o6 o7 o8 o9 o10 : Option D), ρ' = [some (.at_ u (pkD true s d L1 Q1)), some (pkD true s d L2 Q2), some (plT T (p.1, p.2.1, p.2.2 + 2 * (d : Int))), some (.int (s : Int)), some (.int (τ : Int)), o5, o6, o7, o8, o9, o10] ∧ lkOkE true [o5, o6, o7, o8, o9, o10] = true ∧ τ % 2 ^ s = sm (jnT p L1 L2) (Q1.take i) % 2 ^ s) ∧ B = B', ⟨⟨0, _, _, _, _, _, _, rfl, rfl, rfl⟩, rfl⟩, fun i ρ' B' hI => ?_, fun i c ρ' B' hc hI => ?_, fun ρ' B' hI => ?_⟩
    · show (lkOk false (pkD true s d L1 Q1) && (lkOk false (pkD true s d L2 Q2) && true)) = true
      rw [lk_pk rfl, lk_pk rfl]; rfl
    · obtain ⟨⟨τ, o5, o6, o7, o8, o9, o10, rfl, _⟩, _⟩ := hI
      rfl
    · obtain ⟨⟨τ, o5, o6, o7, o8, o9, o10, rfl, _, hτ⟩, rfl⟩ := hI
      rw [TF_kss, List.getElem?_map] at hc
      obtain ⟨q, hq, rfl⟩ := Option.map_eq_some_iff.mp hc
      have hqQ := List.mem_of_getElem? hq
      obtain ⟨hx, hy⟩ := hq1 q hqQ
      have tk : sm (jnT p L1 L2) (Q1.take (i + 1)) = sm (jnT p L1 L2) (Q1.take i) + jnT p L1 L2 q := by
        rw [List.take_add_one, hq, Option.toList_some, sm_append, sm_cons, sm_nil, Nat.add_zero]
      have bup : Bd 200 (p.2.1 - q.2) := (hp.2.1.sub (bdS hy)).mono (by decide)
      have cm : CMulW q.1 (p.2.1 - q.2) := cmw ((bdS hx).mono (by decide)) (bup.mono (by decide))
      have bA : Bd 400 (p.2.2 + 2 * (d : Int) - q.1 * (p.2.1 - q.2)) := by
        refine (Bd.sub ((hp.2.2.add bd2).mono (by decide : 100 + 1 ≤ 300)) (((bdS hx).mul bup).mono (by decide : 100 + 200 ≤ 300))).mono (by decide)
      have cmA : CMulW (p.2.2 + 2 * (d : Int) - q.1 * (p.2.1 - q.2)) (s : Int) := cmw (bA.mono (by decide)) (bs.mono (by decide))
      refine wg_name ?_
      refine ws_seq <| ws_asg <| we_wk <| we_var rfl ⟨_, .kt _, wg_tup rfl <| wgs_cons <| wg_name <| wgs_cons <| wg_name <| wgs_nil ?_⟩
      refine ws_seq <| ws_par <| wa_cons <| we_op <| we_fx T <| we_var rfl ⟨_, _, _, rfl, we_var rfl <| ro_i0 <| wa_cons <| we_op <| we_fy T <| we_var rfl ⟨_, _, _, rfl, we_var rfl <| ro_i0 <| wa_nil ⟨_, _, rfl, ?_⟩⟩⟩
      refine ws_seq <| ws_set <| we_op <| we_fa T <| we_var rfl ⟨_, _, _, rfl, we_op <| we_var rfl <| we_var rfl <| ro_i cm <| ro_i0 ?_⟩
      refine ws_if <| wt_and <| wt_test <| we_op <| we_var rfl <| we_int <| ro_b0 ⟨_, rfl, fun hA => wt_val <| we_dinT <| we_kt <| wa_cons <| we_var rfl <| wa_cons <| we_var rfl <| wa_nil ⟨k2 (p.1 - q.1, p.2.1 - q.2), rfl, z2, _, rfl, we_var rfl ⟨true, _, rfl, _, rfl, fun hin => ?_, fun hin => ws_next ?_⟩⟩, fun hA => ⟨(fun z => nomatch z), fun _ => ws_next ?_⟩⟩
      · have hA := of_decide_eq_true hA
        rw [TF_get k2_inj] at hin
        have h2Q : (p.1 - q.1, p.2.1 - q.2) ∈ Q2 := by
          refine Classical.byContradiction fun z => ?_
          rw [if_neg z] at hin
          exact nomatch hin
        have hA' : 0 ≤ p.2.2 + 2 * (d : Int) - q.1 * (p.2.1 - q.2) := hA
        have jm := join_at (s := s) (D := d) (P := p) (t1 := q) hLL ha1 ha2 hA'
        obtain ⟨A, eA⟩ : ∃ A : Nat, p.2.2 + 2 * (d : Int) - q.1 * (p.2.1 - q.2) = (A : Int) := ⟨_, (Int.toNat_of_nonneg hA').symm⟩
        have cv : CMulW (PVi s d L1 q) (PVi s d L2 (p.1 - q.1, p.2.1 - q.2)) := cmw ((hb1 _).mono (by decide)) ((hb2 _).mono (by decide))
        refine ws_set <| we_op <| we_var rfl <| we_op <| we_op <| we_dgetT <| we_varA rfl ⟨true, _, rfl, we_var rfl ⟨k2 q, .int (PVi s d L1 q), rfl, by rw [TF_get k2_inj, if_pos hqQ], ?_⟩⟩
        refine we_dgetT <| we_var rfl ⟨true, _, rfl, we_kt <| wa_cons <| we_var rfl <| wa_cons <| we_var rfl <| wa_nil ⟨k2 (p.1 - q.1, p.2.1 - q.2), rfl, z2, k2 (p.1 - q.1, p.2.1 - q.2), .int (PVi s d L2 (p.1 - q.1, p.2.1 - q.2)), rfl, by rw [TF_get k2_inj, if_pos h2Q], ro_i cv ?_⟩⟩
        refine we_op <| we_var rfl <| we_var rfl <| ro_i cmA <| ro_i (Int.mul_nonneg hA' (by omega)) <| ro_i0 ?_
        rw [eA] at jm ⊢
        rw [Int.toNat_natCast] at jm
        have ev : ((τ : Int) + (PVi s d L1 q * PVi s d L2 (p.1 - q.1, p.2.1 - q.2)) / 2 ^ ((A : Int) * (s : Int)).toNat) = ((τ + PV s d q L1 * PV s d (p.1 - q.1, p.2.1 - q.2) L2 / 2 ^ (s * A) : Nat) : Int) := by
          have e2 : ((A : Int) * (s : Int)).toNat = s * A := by rw [← Int.natCast_mul, Int.toNat_natCast, Nat.mul_comm]
          rw [e2]
          push_cast
          rfl
        rw [ev]
        refine ⟨⟨_, _, _, _, _, _, _, rfl, rfl, ?_⟩, rfl⟩
        rw [tk, Nat.add_mod, jm, hτ, Nat.add_mod (sm (jnT p L1 L2) (Q1.take i))]
        show _ = (_ + jnT p L1 L2 q % 2 ^ s) % 2 ^ s
        have hj : jnT p L1 L2 q % 2 ^ s = jnT p L1 L2 q := by
          have : jnT p L1 L2 q = _ % 2 ^ s := jm.symm
          rw [this, Nat.mod_mod]
        rw [hj]
        rfl
      · rw [TF_get k2_inj] at hin
        have h2Q : (p.1 - q.1, p.2.1 - q.2) ∉ Q2 := fun z => by
          rw [if_pos z] at hin
          exact nomatch hin
        refine ⟨⟨τ, _, _, _, _, _, _, rfl, rfl, ?_⟩, rfl⟩
        have : jnT p L1 L2 q = 0 := join_no ha1 ha2 (.inr fun r hr e => h2Q ((hP2.me _).mpr ⟨r, hr, e⟩))
        rw [tk, this, Nat.add_zero]; exact hτ
      · have hA := of_decide_eq_false hA
        refine ⟨⟨τ, _, _, _, _, _, _, rfl, rfl, ?_⟩, rfl⟩
        have : jnT p L1 L2 q = 0 := join_no ha1 ha2 (.inl (Int.not_le.mp hA))
        rw [tk, this, Nat.add_zero]; exact hτ
    · obtain ⟨⟨τ, o5, o6, o7, o8, o9, o10, rfl, hlk, hτ⟩, rfl⟩ := hI
      rw [TF_kss, List.length_map, List.take_length] at hτ
      refine ⟨?_, ⟨τ, _, _, _, _, _, _, rfl, ?_⟩, rfl⟩
      · show (lkOk true (pkD true s d L1 Q1) && (lkOk true (pkD true s d L2 Q2) && (true && (true && (true && lkOkE true [o5, o6, o7, o8, o9, o10]))))) = true
        rw [lk_pk rfl, lk_pk rfl, hlk]; rfl
      · rw [hτ]
        unfold jnT
        rw [sm_once hP1.nd fun r hr => (hP1.me _).mpr ⟨r, hr, rfl⟩]
  rintro _ _ ⟨⟨τ, o5, o6, o7, o8, o9, o10, rfl, hτ⟩, rfl⟩
  refine ws_ret <| we_op <| we_var rfl <| we_op <| we_op <| we_int <| we_var rfl <| ro_i (shl_ok (n := 1) (by decide) (by omega)) <| we_int <| ro_i0 ?_
  rw [Int.one_mul, Int.toNat_natCast]
  refine ro_andM ?_
  have e : ((τ : Int) % 2 ^ s) = ((sm (jnS p L2) L1 % 2 ^ s : Nat) : Int) := by
    rw [← hτ]; push_cast; rfl
  rw [e]
  exact hk
end
end AW

set_option linter.all false
set_option maxRecDepth 100000
set_option maxHeartbeats 8000000
namespace AW
open PySem PySem.Spec PyProof.Rows L2 Fewest
variable [Tbs]
section
variable {P : Program} {w : World} {K : PySem.W.Frag} {mg : Str → Option Value} {base : Heap}
def pr_Place_lifted (T : Tx K mg) : Pr := fun ds B k e => ∃ x y a s : Int, ds = [pl T x y a, .int s] ∧ k (pl T x y (a + s)) B
theorem okD_Place_lifted (T : Tx K mg) : FnOk P w K mg base (L2.CX P w) 6 T.a_Place_lifted T.d_Place_lifted P_Place_lifted (spD K (pr_Place_lifted T)) := by
  refine T.F_Place_lifted.okX sc_Place_lifted (spD_len fun ds B k e h => by obtain ⟨x, y, a, s1, rfl, hk⟩ := h; rfl) (fun cdv A outer s H vs Q E hr h => ?_)
  have G_Place_init : FnOk P w K mg base (L2.CX P w) _ _ _ _ _ := okD_Place_init T
  have G_check_integer : FnOk P w K mg base (L2.CX P w) _ _ _ _ _ := okD_check_integer T
  obtain ⟨G, ds, B, k, e, hs, hR, ⟨x, y, a, s1, rfl, hk⟩, hK, hX⟩ := h
  refine ⟨_, (pss_cons (ps_expr (pe_call G_check_integer (hr.mono (by decide)) (by rfl) T.g_check_integer T.F_check_integer.kp T.b_check_integer .nil passL (pa_cons (pv 1) pa_nil)))
 (pss_one (ps_ret (pe_make T.M_Place G_Place_init (hr.mono (by decide)) (by rfl) T.g_C_Place T.b_Place_init .nil passL (pa_cons (pe_fld (pv 0) rfl) (pa_cons (pe_fld (pv 0) rfl) (pa_cons (pe_op op_add (pe_fld (pv 0) rfl) (pv 1)) pa_nil))))))), run_body (ρ := [some (pl T x y a), some (.int s1)]) hs hR hK hX rfl ?_⟩
  refine ws_seq (ws_drop (we_call (wa_cons (we_var rfl (wa_nil ⟨_, rfl, .inl rfl, fun _ => ?_, fun h => nomatch h⟩)))))
  refine (ws_ret (we_place T (wa_cons (we_fx T (we_var rfl ⟨_, _, _, rfl, (wa_cons (we_fy T (we_var rfl ⟨_, _, _, rfl, (wa_cons (we_op (we_fa T (we_var rfl ⟨_, _, _, rfl, (we_var rfl (ro_i0 (wa_nil ⟨_, _, _, rfl, ?_⟩)))⟩))))⟩)))⟩)))))
  exact hk
theorem fdN {n m : Nat} (hm : 0 < m) : ((n : Int)).fdiv (m : Int) = ((n / m : Nat) : Int) := by
  rw [Int.fdiv_eq_ediv_of_nonneg _ (by omega)]
  first | (push_cast; rfl) | push_cast
theorem pk0 (s d : Nat) : Pk (Wks 0) [(0, 0)] ∧ ([((k2 (0, 0)), D.int (2 ^ (s * d)))] : List (List L2.Key × D)) = TF k2 (PVi s d (Wks 0)) [(0, 0)] := by
  refine ⟨⟨List.nodup_cons.mpr ⟨fun h => (nomatch h), List.nodup_nil⟩, fun t => ?_⟩, ?_⟩
  · rw [List.mem_singleton]
    show _ ↔ ∃ p ∈ [((0, 0, 0) : T3)], sqT p = t
    constructor
    · rintro rfl; exact ⟨_, List.mem_singleton.mpr rfl, rfl⟩
    · rintro ⟨p, hp, rfl⟩; rw [List.mem_singleton.mp hp]
  · show [(k2 (0, 0), D.int (2 ^ (s * d)))] = [(k2 (0, 0), D.int (PVi s d (Wks 0) (0, 0)))]
    have e : PVi s d (Wks 0) (0, 0) = 2 ^ (s * d) := by
      show ((sm (fun p => if sqT p = (0, 0) then wt s d p else 0) [((0, 0, 0) : T3)] : Nat) : Int) = _
      rw [sm_cons, sm_nil, if_pos rfl]
      unfold wt
      show ((2 ^ (s * ((d : Int) + 0).toNat) + 0 : Nat) : Int) = _
      rw [Int.add_zero, Int.toNat_natCast, Nat.add_zero]
      push_cast; rfl
    rw [e]
def pr_walks_by_halves (T : Tx K mg) : Pr := fun ds B k e => ∃ (n : Nat) (p : T3), ds = [plT T p, .int (n : Int)] ∧ n ≤ 20 ∧ (Bd 100 p.1 ∧ Bd 100 p.2.1 ∧ Bd 100 p.2.2) ∧ k (.int ((cw n p : Nat) : Int)) B
theorem okD_walks_by_halves (T : Tx K mg) : FnOk P w K mg base (L2.CX P w) 7 T.a_walks_by_halves T.d_walks_by_halves P_walks_by_halves (spD K (pr_walks_by_halves T)) := by
  refine T.F_walks_by_halves.okX sc_walks_by_halves (spD_len fun ds B k e h => by obtain ⟨n, p, rfl, hn, hp, hk⟩ := h; rfl) (fun cdv A outer s H vs Q E hr h => ?_)
  have G_Place_lifted : FnOk P w K mg base (L2.CX P w) 6 _ _ _ _ := okD_Place_lifted T
  have G_joined_walks : FnOk P w K mg base (L2.CX P w) 1 _ _ _ _ := okD_joined_walks T
  have G_step_further : FnOk P w K mg base (L2.CX P w) 1 _ _ _ _ := okD_step_further T
  obtain ⟨G, ds, B, k, e, hs, hR, ⟨n, p, rfl, hn, hp, hk⟩, hK, hX⟩ := h
  refine ⟨_, (pss_cons (ps_set (i := 2) sc_walks_by_halves.nd rfl (.inl rfl) (pe_op op_add (pe_op op_mul pe_int (pv 1)) pe_int))
 (pss_cons (ps_set (i := 3) sc_walks_by_halves.nd rfl (.inl rfl) (pe_op op_sub (pv 1) (pe_op op_fdivG (pv 1) pe_int)))
 (pss_cons (ps_set (i := 4) sc_walks_by_halves.nd rfl (.inl rfl) (pe_op op_fdivG (pe_op op_mulW (pv 3) (pv 3)) pe_int))
 (pss_cons (ps_set (i := 5) sc_walks_by_halves.nd rfl (.inl rfl) (pe_disp1T (un0 hr) (pe_tup (pa_cons pe_int (pa_cons pe_int pa_nil))) (pe_op op_shlW pe_int (pe_op op_mulW (pv 2) (pv 4)))))
 (pss_cons (ps_for (passes_of rfl) rfl (pi_range1 (by rfl) T.n_range (pa_cons (pe_op op_fdivG (pv 1) pe_int) pa_nil)) (pg_name (i := 6) sc_walks_by_halves.nd rfl (.inl rfl))
 (pss_one (ps_set (i := 5) sc_walks_by_halves.nd rfl (.inl rfl) (pe_call G_step_further (hr.mono (by decide)) (by rfl) T.g_step_further T.F_step_further.kp T.b_step_further .nil passL (pa_cons (pv 5) (pa_cons (pv 2) pa_nil))))))
 (pss_cons (ps_set (i := 7) sc_walks_by_halves.nd rfl (.inl rfl) (pe_ifExp (pt_cmpR op_eq (pv 3) (pe_op op_fdivG (pv 1) pe_int) (nomark _)) (pv 5) (pe_call G_step_further (hr.mono (by decide)) (by rfl) T.g_step_further T.F_step_further.kp T.b_step_further .nil passL (pa_cons (pv 5) (pa_cons (pv 2) pa_nil)))))
 (pss_one (ps_ret (pe_call G_joined_walks (hr.mono (by decide)) (by rfl) T.g_joined_walks T.F_joined_walks.kp T.b_joined_walks .nil passL (pa_cons (pv 5) (pa_cons (pv 7) (pa_cons (pe_meth (pv 0) T.cl_Place T.M_Place_lifted G_Place_lifted (hr.mono (by decide)) T.b_Place_lifted .nil passL (pa_cons (pe_op op_mul pe_int (pv 4)) pa_nil)) (pa_cons (pv 2) pa_nil))))))))))))), run_body (ρ := [some (plT T p), some (.int (n : Int)), none, none, none, none, none, none]) hs hR hK hX rfl ?_⟩
  have z2 : 2 ≤ sizeLine := by decide
  have bn : Bd 100 (n : Int) := bdS (show (n : Int).natAbs ≤ 20 by omega)
  have bl : Bd 100 ((n - n / 2 : Nat) : Int) := bdS (show ((n - n / 2 : Nat) : Int).natAbs ≤ 20 by omega)
  have c2 : CMul 2 (n : Int) := .inl ⟨by decide, by decide⟩
  have ef2 : ((n : Int)).fdiv 2 = ((n / 2 : Nat) : Int) := fdN (m := 2) (by decide)
  have hv : Hv n ((n - n / 2) * (n - n / 2) / 4) := ⟨hn, rfl⟩
  have hd25 := hv.d25
  generalize hd : (n - n / 2) * (n - n / 2) / 4 = d at hv hd25
  have bd : Bd 100 (d : Int) := bdS (show (d : Int).natAbs ≤ 25 by omega)
  have bs : Bd 100 (((2 * n + 1 : Nat)) : Int) := bdS (show (((2 * n + 1 : Nat)) : Int).natAbs ≤ 41 by omega)
  -- slot, later, deep
  refine ws_cut (fun ρ' B' => ρ' = [some (plT T p), some (.int (n : Int)), some (.int ((2 * n + 1 : Nat) : Int)), none, none, none, none, none] ∧ B = B') ?_ ?_
  · refine ws_set <| we_op <| we_op <| we_int <| we_var rfl <| ro_i c2 <| we_int <| ro_i0 ?_
    rw [show (2 * (n : Int) + 1) = ((2 * n + 1 : Nat) : Int) by push_cast; rfl]
    exact ⟨rfl, rfl⟩
  rintro _ _ ⟨rfl, rfl⟩
  refine ws_cut (fun ρ' B' => ρ' = [some (plT T p), some (.int (n : Int)), some (.int ((2 * n + 1 : Nat) : Int)), some (.int ((n - n / 2 : Nat) : Int)), none, none, none, none] ∧ B = B') ?_ ?_
  · refine ws_set <| we_op <| we_var rfl <| we_op <| we_var rfl <| we_int <| ro_i ⟨by decide, by decide⟩ <| ro_i0 ?_
    rw [ef2, show ((n : Int) - ((n / 2 : Nat) : Int)) = ((n - n / 2 : Nat) : Int) by omega]
    exact ⟨rfl, rfl⟩
  rintro _ _ ⟨rfl, rfl⟩
  refine ws_cut (fun ρ' B' => ρ' = [some (plT T p), some (.int (n : Int)), some (.int ((2 * n + 1 : Nat) : Int)), some (.int ((n - n / 2 : Nat) : Int)), some (.int (d : Int)), none, none, none] ∧ B = B') ?_ ?_
  · refine ws_set <| we_op <| we_op <| we_var rfl <| we_var rfl <| ro_i (cmw (bl.mono (by decide)) (bl.mono (by decide))) <| we_int <| ro_i ⟨by decide, by decide⟩ ?_
    rw [← Int.natCast_mul, show (((n - n / 2) * (n - n / 2) : Nat) : Int).fdiv 4 = (((n - n / 2) * (n - n / 2) / 4 : Nat) : Int) from fdN (m := 4) (by decide), hd]
    exact ⟨rfl, rfl⟩
  rintro _ _ ⟨rfl, rfl⟩
  obtain ⟨hP0, eP0⟩ := pk0 (2 * n + 1) d
  refine wx_own <| wx_seq <| wx_newD1 <| we_kt <| wa_cons <| we_int <| wa_cons <| we_int <| wa_nil ⟨k2 (0, 0), rfl, z2, _, rfl, we_op <| we_int <| we_op <| we_var rfl <| we_var rfl <| ro_i (cmw (bs.mono (by decide)) (bd.mono (by decide))) <| ?_⟩
  rw [← Int.natCast_mul]
  refine ro_i (shl_ok (n := 1) (by decide) ?_) fun fp => ?_
  · have : (2 * n + 1) * d ≤ 41 * 25 := Nat.mul_le_mul (by omega) hd25
    omega
  rw [Int.one_mul, Int.toNat_natCast, eP0]
  refine wx_tellDD (i := 5) rfl <| wx_ws ?_
  have hq1 : ∀ {m : Nat} {Q : List Sq}, m ≤ n - n / 2 → Pk (Wks m) Q → ∀ q ∈ Q, q.1.natAbs ≤ 1000 := fun hm hP q hq => by have := (hv.sq hm hP hq).1; omega
  have h0 : ∀ {m : Nat}, m + 1 ≤ n - n / 2 → ∀ q ∈ Wks m, ∀ r ∈ nbS q, 0 ≤ (d : Int) + r.2.2 := fun hm q hq r hr => by
    have := hv.ar hm (show r ∈ Wks (_ + 1) from List.mem_flatMap.mpr ⟨q, hq, hr⟩)
    unfold ab at this; omega
  have h00 : ∀ {m : Nat}, m ≤ n - n / 2 → ∀ q ∈ Wks m, 0 ≤ (d : Int) + q.2.2 := fun hm q hq => by
    have := hv.ar hm hq
    unfold ab at this; omega
  have p4 : ∀ m : Nat, m ≤ 10 → 4 ^ m ≤ 1048576 := fun m hm => Nat.le_trans (Nat.pow_le_pow_right (by decide) hm) (by decide)
  refine ws_cut (fun ρ' B' => (∃ (Q : List Sq) (o6 : Option D), ρ' = [some (plT T p), some (.int (n : Int)), some (.int ((2 * n + 1 : Nat) : Int)), some (.int ((n - n / 2 : Nat) : Int)), some (.int (d : Int)), some (pkD false (2 * n + 1) d (Wks (n / 2)) Q), o6, none] ∧ Pk (Wks (n / 2)) Q ∧ Q.length ≤ 4 ^ (n / 2)) ∧ B = B') ?_ ?_
  · refine ws_for_range1 <| wa_cons <| we_op <| we_var rfl <| we_int <| ro_i ⟨by decide, by decide⟩ ?_
    rw [ef2]
    refine wa_nil ⟨((n / 2 : Nat) : Int), rfl, by omega, by omega, fun i ρ' B' => (∃ (Q : List Sq) (o6 : Option D), ρ' = [some (plT T p), some (.int (n : Int)), some (.int ((2 * n + 1 : Nat) : Int)), some (.int ((n - n / 2 : Nat) : Int)), some (.int (d : Int)), some (pkD false (2 * n + 1) d (Wks i) Q), o6, none] ∧ Pk (Wks i) Q ∧ Q.length ≤ 4 ^ i) ∧ B = B', ⟨⟨_, _, rfl, hP0, Nat.le_refl _⟩, rfl⟩, fun i ρ' B' hi hI => ?_, fun ρ' B' hI => ?_⟩
    · obtain ⟨⟨Q, o6, rfl, hP, hl⟩, rfl⟩ := hI
      rw [Int.toNat_natCast] at hi
      have := p4 i (by omega)
      refine wg_name ?_
      refine ws_set <| we_call <| wa_cons <| we_var rfl <| wa_cons <| we_var rfl <| wa_nil ⟨2 * n + 1, d, Wks i, Q, rfl, hP, by omega, by omega, hq1 (by omega) hP, fun t => (hv.bd (by omega) t).mono (by decide), h0 (by omega), fun Q' hP' hl' => ⟨⟨Q', _, rfl, hP', ?_⟩, rfl⟩⟩
      rw [Nat.pow_succ]; omega
    · obtain ⟨⟨Q, o6, rfl, hP, hl⟩, rfl⟩ := hI
      rw [Int.toNat_natCast] at hP hl ⊢
      exact ⟨⟨Q, o6, rfl, hP, hl⟩, rfl⟩
  rintro _ _ ⟨⟨Q, o6, rfl, hP, hl⟩, rfl⟩
  have hlp := p4 (n / 2) (by omega)
  refine ws_cut (fun ρ' B' => (∃ (Q2 : List Sq), ρ' = [some (plT T p), some (.int (n : Int)), some (.int ((2 * n + 1 : Nat) : Int)), some (.int ((n - n / 2 : Nat) : Int)), some (.int (d : Int)), some (pkD false (2 * n + 1) d (Wks (n / 2)) Q), o6, some (pkD false (2 * n + 1) d (Wks (n - n / 2)) Q2)] ∧ Pk (Wks (n - n / 2)) Q2) ∧ B = B') ?_ ?_
  · refine ws_set <| we_ifE <| wt_test <| we_op <| we_var rfl <| we_op <| we_var rfl <| we_int <| ro_i ⟨by decide, by decide⟩ ?_
    rw [ef2]
    refine ro_eqI ⟨_, rfl, fun h => we_var rfl ?_, fun h => ?_⟩
    · have h := of_decide_eq_true h
      have e : n - n / 2 = n / 2 := by omega
      rw [e]
      exact ⟨⟨Q, rfl, hP⟩, rfl⟩
    · have h := of_decide_eq_false h
      have e : n - n / 2 = n / 2 + 1 := by omega
      refine we_call <| wa_cons <| we_var rfl <| wa_cons <| we_var rfl <| wa_nil ⟨2 * n + 1, d, Wks (n / 2), Q, rfl, hP, by omega, by omega, hq1 (by omega) hP, fun t => (hv.bd (by omega) t).mono (by decide), h0 (by omega), fun Q' hP' hl' => ⟨⟨Q', ?_, ?_⟩, rfl⟩⟩
      · rw [e]; rfl
      · rw [e]; exact hP'
  rintro _ _ ⟨⟨Q2, rfl, hP2⟩, rfl⟩
  refine ws_ret <| we_call <| wa_cons <| we_var rfl <| wa_cons <| we_dtW <| we_var rfl ⟨_, _, rfl, wa_cons <| we_meth <| we_var rfl ⟨_, _, rfl, by decide +kernel, wa_cons <| we_op <| we_int <| we_var rfl <| ro_i (show CMul 2 (d : Int) from .inl ⟨by decide, by decide⟩) <| wa_nil ⟨_, _, _, _, rfl, wa_cons <| we_var rfl <| wa_nil ⟨2 * n + 1, d, Wks (n / 2), Wks (n - n / 2), Q, Q2, p, rfl, hP, hP2, ?_, by omega, by omega, h00 (by omega), h00 (Nat.le_refl _), fun t => (hv.bd (by omega) t).mono (by decide), fun t => (hv.bd (Nat.le_refl _) t).mono (by decide), fun q hq => hv.sq (by omega) hP hq, hp, ?_⟩⟩⟩⟩
  · rw [Wks_len, Wks_len, ← Nat.pow_add, show n / 2 + (n - n / 2) = n by omega, show (4 : Nat) = 2 ^ 2 by decide, ← Nat.pow_mul]
    exact Nat.pow_lt_pow_right (by decide) (by omega)
  · have e1 : sm (jnS p (Wks (n - n / 2))) (Wks (n / 2)) = cw n p := by
      have := cw_cut (n / 2) (n - n / 2) p
      rw [show n / 2 + (n - n / 2) = n by omega] at this
      exact this.symm
    have e2 : cw n p % 2 ^ (2 * n + 1) = cw n p := by
      refine Nat.mod_eq_of_lt (Nat.lt_of_le_of_lt (cw_le n p) ?_)
      rw [show (4 : Nat) = 2 ^ 2 by decide, ← Nat.pow_mul]
      exact Nat.pow_lt_pow_right (by decide) (by omega)
    rw [e1, e2]
    exact hk
def pr_walks_to (T : Tx K mg) : Pr := fun ds B k e => ∃ d1 d2, ds = [d1, d2] ∧ ((∃ (n : Nat) (p : T3), d1 = plT T p ∧ d2 = .int (n : Int) ∧ n ≤ 20 ∧ (Bd 3000 p.1 ∧ Bd 3000 p.2.1 ∧ Bd 3000 p.2.2) ∧ k (.int ((cw n p : Nat) : Int)) B) ∨
  (plainD d1 = true ∧ e T.C_BadPlace (some ((["value"] : List Str), [d1])) B) ∨ (∃ p : T3, d1 = plT T p ∧ plainD d2 = true ∧ badW d2 ∧ e T.C_BadNumber (some ((["value"] : List Str), [d2])) B) ∨ (∃ (n : Int) (p : T3), d1 = plT T p ∧ d2 = .int n ∧ 20 < n ∧ e T.C_TooFar (some ((["number"] : List Str), [.int n])) B))
theorem okD_walks_to (T : Tx K mg) : FnOk P w K mg base (L2.CX P w) 8 T.a_walks_to T.d_walks_to P_walks_to (spD K (pr_walks_to T)) := by
  refine T.F_walks_to.okX sc_walks_to (spD_len fun ds B k e h => by obtain ⟨d1, d2, rfl, hk⟩ := h; rfl) (fun cdv A outer s H vs Q E hr h => ?_)
  have G_areas_of_walks : FnOk P w K mg base (L2.CX P w) 2 _ _ _ _ := okD_areas_of_walks T
  have G_check_near : FnOk P w K mg base (L2.CX P w) 3 _ _ _ _ := okD_check_near T
  have G_check_place : FnOk P w K mg base (L2.CX P w) _ _ _ _ _ := okD_check_place T
  have G_check_whole : FnOk P w K mg base (L2.CX P w) 4 _ _ _ _ := okD_check_whole T
  have G_walks_by_halves : FnOk P w K mg base (L2.CX P w) 7 _ _ _ _ := okD_walks_by_halves T
  obtain ⟨G, ds, B, k, e, hs, hR, ⟨d1, d2, rfl, hk⟩, hK, hX⟩ := h
  refine ⟨_, (pss_cons (ps_expr (pe_call G_check_place (hr.mono (by decide)) (by rfl) T.g_check_place T.F_check_place.kp T.b_check_place .nil (passE (E := E)) (pa_cons (pv 0) pa_nil)))
 (pss_cons (ps_expr (pe_call G_check_whole (hr.mono (by decide)) (by rfl) T.g_check_whole T.F_check_whole.kp T.b_check_whole .nil (passE (E := E)) (pa_cons (pv 1) pa_nil)))
 (pss_cons (ps_expr (pe_call G_check_near (hr.mono (by decide)) (by rfl) T.g_check_near T.F_check_near.kp T.b_check_near .nil (passE (E := E)) (pa_cons (pv 1) pa_nil)))
 (pss_cons (ps_set (i := 2) sc_walks_to.nd rfl (.inl rfl) (pe_call G_areas_of_walks (hr.mono (by decide)) (by rfl) T.g_areas_of_walks T.F_areas_of_walks.kp T.b_areas_of_walks .nil (passE (E := E)) (pa_cons (pe_fld (pv 0) rfl) (pa_cons (pe_fld (pv 0) rfl) (pa_cons (pv 1) pa_nil)))))
 (pss_cons (ps_if (PW.pt (pw_or (pt_cmp (pc_isN (pv 2))) (pw_or (pt_cmpR op_lt (pe_fld (pv 0) rfl) (pe_ix ix_tup (pv 2) pe_int (fun _ _ => rfl)) (nomark _)) (pw_or1 (pt_cmpR op_gt (pe_fld (pv 0) rfl) (pe_ix ix_tup (pv 2) pe_int (fun _ _ => rfl)) (nomark _))))))
 (pss_one (ps_ret pe_int))
 pss_nil)
 (pss_one (ps_ret (pe_call G_walks_by_halves (hr.mono (by decide)) (by rfl) T.g_walks_by_halves T.F_walks_by_halves.kp T.b_walks_by_halves .nil (passE (E := E)) (pa_cons (pv 0) (pa_cons (pv 1) pa_nil)))))))))), run_body (ρ := [some d1, some d2, none]) hs hR hK hX rfl ?_⟩
  rcases hk with ⟨n, p, rfl, rfl, hn, hp, hk⟩ | ⟨pd, he⟩ | ⟨p, rfl, pd, bd, he⟩ | ⟨n, p, rfl, rfl, hn, he⟩
  · have bn : Bd 3000 (n : Int) := (bdS (show (n : Int).natAbs ≤ 20 by omega)).mono (by decide)
    refine ws_seq <| ws_drop <| we_callE <| wa_cons <| we_var rfl <| wa_nil ⟨_, rfl, .inl ⟨_, _, _, rfl, ?_⟩⟩
    refine ws_seq <| ws_drop <| we_callE <| wa_cons <| we_var rfl <| wa_nil ⟨_, rfl, .inl ⟨_, rfl, by omega, ?_⟩⟩
    refine ws_seq <| ws_drop <| we_callE <| wa_cons <| we_var rfl <| wa_nil ⟨_, rfl, .inl ⟨by omega, ?_⟩⟩
    refine ws_seq <| ws_set <| we_call <| wa_cons <| we_fx T <| we_var rfl ⟨_, _, _, rfl, wa_cons <| we_fy T <| we_var rfl ⟨_, _, _, rfl, wa_cons <| we_var rfl <| wa_nil ⟨_, _, _, rfl, hp.1, hp.2.1, bn, ?_⟩⟩⟩
    cases hA : areaF p.1 p.2.1 (n : Int) with
    | none =>
      have hz : cw n p = 0 := cw_zero (areaF_none hA p.2.2)
      rw [hz] at hk
      exact ws_seq <| ws_if <| wt_or <| wt_val <| we_isN <| we_var rfl ⟨_, rfl, fun _ => ⟨fun _ => ws_ret <| we_int hk, fun z => nomatch z⟩, fun z => nomatch z⟩
    | some w =>
      obtain ⟨lo, hi⟩ := w
      obtain ⟨h1, h2, h3⟩ := areaF_some hA
      have hz : ¬ (lo ≤ p.2.2 ∧ p.2.2 ≤ hi) → cw n p = 0 := fun z => cw_zero fun y => z ((h1 p.2.2).mpr y)
      refine ws_seq <| ws_if <| wt_or <| wt_val <| we_isN <| we_var rfl ⟨_, rfl, (fun z => nomatch z), fun _ => ?_⟩
      have smA : stF p ≤ (n : Int) → Bd 100 p.1 ∧ Bd 100 p.2.1 ∧ Bd 100 p.2.2 := fun h => by
        obtain ⟨g1, g2⟩ := stF_sq h
        have g3 : (n : Int) * n ≤ 20 * 20 := Int.mul_le_mul (by omega) (by omega) (by omega) (by omega)
        refine ⟨bdS (c := 20) ?_, bdS (c := 20) ?_, bdS (c := 400) ?_⟩
        · unfold ab at g1; omega
        · unfold ab at g1; omega
        · unfold ab at g2; omega
      refine wt_or <| wt_test <| we_op <| we_fa T <| we_var rfl ⟨_, _, _, rfl, we_op <| we_var rfl <| we_int <| ro_ixT (show atI [D.int lo, D.int hi] 0 = some (.int lo) from rfl) <| ro_b0 ⟨_, rfl, fun h => ⟨fun _ => ?_, fun z => nomatch z⟩, fun h => ?_⟩⟩
      · have h := of_decide_eq_true h
        rw [hz (by omega)] at hk
        exact ws_ret <| we_int hk
      have hlo := of_decide_eq_false h
      refine wt_test <| we_op <| we_fa T <| we_var rfl ⟨_, _, _, rfl, we_op <| we_var rfl <| we_int <| ro_ixT (show atI [D.int lo, D.int hi] 1 = some (.int hi) from rfl) <| ro_b0 ⟨_, rfl, fun h => ?_, fun h => ws_next ?_⟩⟩
      · have h := of_decide_eq_true h
        rw [hz (by omega)] at hk
        exact ws_ret <| we_int hk
      have hhi := of_decide_eq_false h
      have hst := (h1 p.2.2).mp ⟨by omega, by omega⟩
      exact ws_ret <| we_call <| wa_cons <| we_var rfl <| wa_cons <| we_var rfl <| wa_nil ⟨n, p, rfl, hn, smA hst.1, hk⟩
  · exact ws_seq <| ws_drop <| we_callE <| wa_cons <| we_var rfl <| wa_nil ⟨_, rfl, .inr ⟨pd, he⟩⟩
  · refine ws_seq <| ws_drop <| we_callE <| wa_cons <| we_var rfl <| wa_nil ⟨_, rfl, .inl ⟨_, _, _, rfl, ?_⟩⟩
    exact ws_seq <| ws_drop <| we_callE <| wa_cons <| we_var rfl <| wa_nil ⟨_, rfl, .inr ⟨pd, bd, he⟩⟩
  · refine ws_seq <| ws_drop <| we_callE <| wa_cons <| we_var rfl <| wa_nil ⟨_, rfl, .inl ⟨_, _, _, rfl, ?_⟩⟩
    refine ws_seq <| ws_drop <| we_callE <| wa_cons <| we_var rfl <| wa_nil ⟨_, rfl, .inl ⟨_, rfl, by omega, ?_⟩⟩
    exact ws_seq <| ws_drop <| we_callE <| wa_cons <| we_var rfl <| wa_nil ⟨_, rfl, .inr ⟨hn, he⟩⟩
def pr_least_walks (T : Tx K mg) : Pr := fun ds B k e => ∃ d1, ds = [d1] ∧ ((∃ (p : T3), d1 = plT T p ∧ stF p ≤ 20 ∧ (Bd 3000 p.1 ∧ Bd 3000 p.2.1 ∧ Bd 3000 p.2.2) ∧ k (.int ((cw (stF p).toNat p : Nat) : Int)) B) ∨
  (plainD d1 = true ∧ e T.C_BadPlace (some ((["value"] : List Str), [d1])) B) ∨ (∃ (p : T3), d1 = plT T p ∧ (Bd 3000 p.1 ∧ Bd 3000 p.2.1 ∧ Bd 3000 p.2.2) ∧ 20 < stF p ∧ e T.C_TooFar (some ((["number"] : List Str), [.int (stF p)])) B))
theorem okD_least_walks (T : Tx K mg) : FnOk P w K mg base (L2.CX P w) 9 T.a_least_walks T.d_least_walks P_least_walks (spD K (pr_least_walks T)) := by
  refine T.F_least_walks.okX sc_least_walks (spD_len fun ds B k e h => by obtain ⟨d1, rfl, hk⟩ := h; rfl) (fun cdv A outer s H vs Q E hr h => ?_)
  have G_check_place : FnOk P w K mg base (L2.CX P w) _ _ _ _ _ := okD_check_place T
  have G_fewest_steps : FnOk P w K mg base (L2.CX P w) 2 _ _ _ _ := okD_fewest_steps T
  have G_walks_to : FnOk P w K mg base (L2.CX P w) 8 _ _ _ _ := okD_walks_to T
  obtain ⟨G, ds, B, k, e, hs, hR, ⟨d1, rfl, hk⟩, hK, hX⟩ := h
  refine ⟨_, (pss_cons (ps_expr (pe_call G_check_place (hr.mono (by decide)) (by rfl) T.g_check_place T.F_check_place.kp T.b_check_place .nil (passE (E := E)) (pa_cons (pv 0) pa_nil)))
 (pss_one (ps_ret (pe_call G_walks_to (hr.mono (by decide)) (by rfl) T.g_walks_to T.F_walks_to.kp T.b_walks_to .nil (passE (E := E)) (pa_cons (pv 0) (pa_cons (pe_call G_fewest_steps (hr.mono (by decide)) (by rfl) T.g_fewest_steps T.F_fewest_steps.kp T.b_fewest_steps .nil (passE (E := E)) (pa_cons (pv 0) pa_nil)) pa_nil)))))), run_body (ρ := [some d1]) hs hR hK hX rfl ?_⟩
  rcases hk with ⟨p, rfl, hs, hp, hk⟩ | ⟨pd, he⟩ | ⟨p, rfl, hp, hs, he⟩
  · refine ws_seq <| ws_drop <| we_callE <| wa_cons <| we_var rfl <| wa_nil ⟨_, rfl, .inl ⟨_, _, _, rfl, ?_⟩⟩
    have h0 := stF_pos p
    refine ws_ret <| we_callE <| wa_cons <| we_var rfl <| wa_cons <| we_call <| wa_cons <| we_var rfl <| wa_nil ⟨p, rfl, hp.1, hp.2.1, hp.2.2, wa_nil ⟨_, _, rfl, .inl ⟨(stF p).toNat, p, rfl, by rw [Int.toNat_of_nonneg h0], by omega, hp, hk⟩⟩⟩
  · exact ws_seq <| ws_drop <| we_callE <| wa_cons <| we_var rfl <| wa_nil ⟨_, rfl, .inr ⟨pd, he⟩⟩
  · refine ws_seq <| ws_drop <| we_callE <| wa_cons <| we_var rfl <| wa_nil ⟨_, rfl, .inl ⟨_, _, _, rfl, ?_⟩⟩
    exact ws_ret <| we_callE <| wa_cons <| we_var rfl <| wa_cons <| we_call <| wa_cons <| we_var rfl <| wa_nil ⟨p, rfl, hp.1, hp.2.1, hp.2.2, wa_nil ⟨_, _, rfl, .inr <| .inr <| .inr ⟨stF p, p, rfl, rfl, hs, he⟩⟩⟩
end
end AW

set_option linter.all false
set_option maxRecDepth 100000
set_option maxHeartbeats 8000000
namespace AW
open PySem PySem.Spec PyProof.Rows L2 Fewest
variable [Tbs]
section
variable {P : Program} {w : World} {K : PySem.W.Frag} {mg : Str → Option Value} {base : Heap}
mutual
theorem lkOk_up : ∀ {d : D}, lkOk false d = true → lkOk true d = true
  | .tup ds, h => lkOkL_up (ds := ds) h
  | .lst ds, h => lkOkL_up (ds := ds) h
  | .ins _ _ ds, h => lkOkL_up (ds := ds) h
  | .dk _ ds, h => lkOkL_up (ds := ds) h
  | .dt lk _ ds, h => by
    have h' : ((lk || false) && lkOkL false ds) = true := h
    rw [Bool.and_eq_true] at h'
    show ((lk || true) && lkOkL true ds) = true
    rw [Bool.or_true, lkOkL_up h'.2]; rfl
  | .at_ _ d, h => lkOk_up (d := d) h
  | .tb d, h => lkOk_up (d := d) h
  | .lam _ _, h => nomatch h
  | .non, _ => rfl
  | .bl _, _ => rfl
  | .int _, _ => rfl
  | .str _, _ => rfl
  | .pen _ _, _ => rfl
  | .scr _, _ => rfl
  | .val _, _ => rfl
  | .edk, _ => rfl
  | .kt _, _ => rfl
theorem lkOkL_up : ∀ {ds : List D}, lkOkL false ds = true → lkOkL true ds = true
  | [], _ => rfl
  | d :: ds, h => by
    have h' : (lkOk false d && lkOkL false ds) = true := h
    rw [Bool.and_eq_true] at h'
    show (lkOk true d && lkOkL true ds) = true
    rw [lkOk_up h'.1, lkOkL_up h'.2]; rfl
end
theorem lkOkE_up : ∀ {ρ : List (Option D)}, lkOkE false ρ = true → lkOkE true ρ = true
  | [], _ => rfl
  | none :: r, h => lkOkE_up (ρ := r) h
  | some d :: r, h => by
    have h' : (lkOk false d && lkOkE false r) = true := h
    rw [Bool.and_eq_true] at h'
    show (lkOk true d && lkOkE true r) = true
    rw [lkOk_up h'.1, lkOkE_up h'.2]; rfl
theorem lkOkE_tl {f : Bool} {o : Option D} {ρ : List (Option D)} (h : lkOkE f (o :: ρ) = true) : lkOkE f ρ = true := by
  cases o with
  | none => exact h
  | some d =>
    have h' : (lkOk f d && lkOkE f ρ) = true := h
    rw [Bool.and_eq_true] at h'
    exact h'.2
def pr_l_spot (T : Tx K mg) : Pr := fun ds B k e => ∃ p : T3, ds = [plT T p] ∧ k (kt3 p) B
theorem okD_l_spot (T : Tx K mg) : FnOk P w K mg base (L2.CX P w) 1 T.a_l_spot T.d_l_spot P_l_spot (spD K (pr_l_spot T)) := by
  refine T.F_l_spot.okX sc_l_spot (spD_len fun ds B k e h => by obtain ⟨p, rfl, hk⟩ := h; rfl) (fun cdv A outer s H vs Q E hr h => ?_)
  obtain ⟨G, ds, B, k, e, hs, hR, ⟨p, rfl, hk⟩, hK, hX⟩ := h
  refine ⟨_, (pss_one (ps_ret (pe_tup (pa_cons (pe_fld (pv 0) rfl) (pa_cons (pe_fld (pv 0) rfl) (pa_cons (pe_fld (pv 0) rfl) pa_nil)))))), run_body (ρ := [some (plT T p)]) hs hR hK hX rfl ?_⟩
  have z3 : 3 ≤ sizeLine := by decide
  exact ws_ret <| we_kt <| wa_cons <| we_fx T <| we_var rfl ⟨_, _, _, rfl, wa_cons <| we_fy T <| we_var rfl ⟨_, _, _, rfl, wa_cons <| we_fa T <| we_var rfl ⟨_, _, _, rfl, wa_nil ⟨k3 p, ktD p, z3, hk⟩⟩⟩⟩
abbrev cwi (m : Nat) (p : T3) : Int := ((cw m p : Nat) : Int)
abbrev ctD (lk : Bool) (m : Nat) (Q : List T3) : D := dtD lk (TF k3 (cwi m) Q)
structure Ck (m : Nat) (Q : List T3) : Prop where
  nd : Q.Nodup
  me : ∀ p, p ∈ Q ↔ p ∈ Wks m
theorem lk_ct {b f : Bool} {m : Nat} {Q : List T3} (h : (b || f) = true) : lkOk f (ctD b m Q) = true := by
  show ((b || f) && lkOkL f ((TF k3 (cwi m) Q).map (·.2))) = true
  rw [h, TF_ints]; rfl
def cE (m : Nat) (Q : List T3) (i : Nat) (t : T3) : Nat := sm (fun p => sm (fun r => if r = t then 1 else 0) (nbS p)) (prc (fun p => p) (Q.take i) (Wks m))
def ltC (s t : T3) (j : Nat) : Nat := sm (fun c => if mvS c s = t then 1 else 0) ((chS "enws").take j)
theorem nb_list (s : T3) : nbS s = (chS "enws").map fun c => mvS c s := by
  rw [chS_enws]
  simp only [List.map_cons, List.map_nil, mv_e, mv_n, mv_w, mv_s, Int.mul_one]
  unfold nbS
  simp only [Int.sub_eq_add_neg]
theorem ltC_all (s t : T3) : ltC s t 4 = sm (fun r => if r = t then 1 else 0) (nbS s) := by
  unfold ltC
  rw [nb_list, sm_map, List.take_of_length_le (by rw [chS_enws]; exact Nat.le_refl _)]
theorem ltC_next {s t : T3} {j : Nat} {c : Str} (h : (chS "enws")[j]? = some c) : ltC s t (j + 1) = ltC s t j + if mvS c s = t then 1 else 0 := by
  unfold ltC
  rw [List.take_add_one, h, Option.toList_some, sm_append, sm_cons, sm_nil]; omega
theorem cE_next {m : Nat} {Q : List T3} {i : Nat} {s : T3} (nd : Q.Nodup) (h : Q[i]? = some s) (t : T3) : cE m Q (i + 1) t = cE m Q i t + cw m s * ltC s t 4 := by
  unfold cE
  rw [sm_next _ _ nd h, ltC_all]
  congr 1
  rw [sm_filt]
  unfold cw
  rw [← sm_mul]
  refine sm_congr fun p _ => ?_
  by_cases e : p = s
  · subst e; simp
  · simp [e]
theorem cE_all {m : Nat} {Q : List T3} (h : Ck m Q) (t : T3) : cE m Q Q.length t = cw (m + 1) t := by
  unfold cE
  rw [List.take_length, sm_all _ fun p hp => (h.me p).mpr hp]
  exact (sm_Wks _ _).symm
theorem ck0 : Ck 0 [(0, 0, 0)] ∧ ([((k3 (0, 0, 0)), D.int 1)] : List (List L2.Key × D)) = TF k3 (cwi 0) [(0, 0, 0)] :=
  ⟨⟨List.nodup_cons.mpr ⟨fun h => (nomatch h), List.nodup_nil⟩, fun p => Iff.rfl⟩, by
    show [((k3 (0, 0, 0)), D.int 1)] = [(k3 (0, 0, 0), D.int (cwi 0 (0, 0, 0)))]
    have e : cw 0 (0, 0, 0) = 1 := by show sm _ [((0, 0, 0) : T3)] = 1; rw [sm_cons, sm_nil]; rfl
    show _ = [(k3 (0, 0, 0), D.int ((cw 0 (0, 0, 0) : Nat) : Int))]
    rw [e]; rfl⟩
theorem Ck.bd {m : Nat} {Q : List T3} (h : Ck m Q) (hm : m ≤ 20) {p : T3} (hp : p ∈ Q) : Bd 100 p.1 ∧ Bd 100 p.2.1 ∧ Bd 100 p.2.2 := by
  obtain ⟨g1, g2⟩ := stF_sq (Wks_st ((h.me p).mp hp)).1
  have g3 : (m : Int) * m ≤ 20 * 20 := Int.mul_le_mul (by omega) (by omega) (by omega) (by omega)
  refine ⟨bdS (c := 20) ?_, bdS (c := 20) ?_, bdS (c := 400) ?_⟩
  · unfold ab at g1; omega
  · unfold ab at g1; omega
  · unfold ab at g2; omega
def pr_l_counted (T : Tx K mg) : Pr := fun ds B k e => ∃ n : Nat, ds = [.int (n : Int)] ∧ n ≤ 6 ∧ ∀ Q, Ck n Q → Q.length ≤ 4 ^ n → k (ctD false n Q) B
theorem okD_l_counted (T : Tx K mg) : FnOk P w K mg base (L2.CX P w) 3 T.a_l_counted T.d_l_counted P_l_counted (spD K (pr_l_counted T)) := by
  refine T.F_l_counted.okX sc_l_counted (spD_len fun ds B k e h => by obtain ⟨n, rfl, h6, hk⟩ := h; rfl) (fun cdv A outer s H vs Q E hr h => ?_)
  have G_l_gone : FnOk P w K mg base (L2.CX P w) 1 _ _ _ _ := okD_l_gone T
  have hu := hu_of hr
  obtain ⟨G, ds, B, k, e, hs, hR, ⟨n, rfl, h6, hk⟩, hK, hX⟩ := h
  refine ⟨_, (pss_cons (ps_set (i := 1) sc_l_counted.nd rfl (.inl rfl) (pe_disp1T (un0 hr) (pe_tup (pa_cons pe_int (pa_cons pe_int (pa_cons pe_int pa_nil)))) pe_int))
 (pss_cons (ps_for (passes_of rfl) rfl (pi_range1 (by rfl) T.n_range (pa_cons (pv 0) pa_nil)) (pg_name (i := 2) sc_l_counted.nd rfl (.inl rfl))
 (pss_cons (ps_set (i := 3) sc_l_counted.nd rfl (.inl rfl) pe_dnewT)
 (pss_cons (ps_lock (ps_for (passes_of rfl) rfl (pi_keys (pv 1)) (pg_name (i := 4) sc_l_counted.nd rfl (.inl rfl))
 (pss_one (ps_for (passes_of rfl) rfl (pi_str pe_str) (pg_name (i := 5) sc_l_counted.nd rfl (.inl rfl))
 (pss_cons (ps_set (i := 6) sc_l_counted.nd rfl (.inl rfl) (pe_call G_l_gone (hr.mono (by decide)) (by rfl) T.g_l_gone T.F_l_gone.kp T.b_l_gone .nil passL (pa_cons (pv 4) (pa_cons (pv 5) (pa_cons pe_int pa_nil)))))
 (pss_one (ps_dput hu (pv 3) (pv 6) (pe_op op_add (pe_dget2 hu (pv 3) (pv 6) pe_int ⟨by rfl, by rfl, by rfl, by rfl⟩) (pe_dget hu (pv 1) (pv 4) (fun _ _ => rfl))) rfl)))))))
 (pss_one (ps_set (i := 1) sc_l_counted.nd rfl (.inl rfl) (pv 3))))))
 (pss_one (ps_ret (pv 1))))), run_body (ρ := [some (.int (n : Int)), none, none, none, none, none, none]) hs hR hK hX rfl ?_⟩
  have z3 : 3 ≤ sizeLine := by decide
  have zL : 16000000 < sizeLine := by decide
  obtain ⟨hC0, eC0⟩ := ck0
  refine wx_own <| wx_seq <| wx_newD1 <| we_kt <| wa_cons <| we_int <| wa_cons <| we_int <| wa_cons <| we_int <| wa_nil ⟨k3 (0, 0, 0), rfl, z3, _, rfl, we_int fun fp => ?_⟩
  rw [eC0]
  refine wx_tellDD (i := 1) rfl <| wx_ws ?_
  refine ws_cut (fun ρ' B' => (∃ (Q : List T3) (o2 o3 o4 o5 o6 : Option D), ρ' = [some (.int (n : Int)), some (ctD false n Q), o2, o3, o4, o5, o6] ∧ Ck n Q ∧ Q.length ≤ 4 ^ n) ∧ B = B') ?_ ?_
  · refine ws_for_range1 <| wa_cons <| we_var rfl <| wa_nil ⟨(n : Int), rfl, by omega, by omega, fun m ρ' B' => (∃ (Q : List T3) (o2 o3 o4 o5 o6 : Option D), ρ' = [some (.int (n : Int)), some (ctD false m Q), o2, o3, o4, o5, o6] ∧ Ck m Q ∧ Q.length ≤ 4 ^ m ∧ lkOkE false [o4, o5, o6] = true) ∧ B = B', ⟨⟨_, _, _, _, _, _, rfl, hC0, Nat.le_refl _, rfl⟩, rfl⟩, fun m ρ' B' hm hI => ?_, fun ρ' B' hI => ?_⟩
    · obtain ⟨⟨Q, o2, o3, o4, o5, o6, rfl, hC, hl, hlk⟩, rfl⟩ := hI
      rw [Int.toNat_natCast] at hm
      have pw : 4 ^ m ≤ 1024 := Nat.le_trans (Nat.pow_le_pow_right (by decide) (show m ≤ 5 by omega)) (by decide)
      refine wg_name ?_
      refine wx_own <| wx_seq <| wx_newD0 fun q => ?_
      refine wx_seq <| wx_for_dt (i := 1) rfl (fun u => ?_) (fun x hx => ?_) fun u => ⟨fun i ρ' O' B' => ∃ (Q' : List T3) (o4 o5 o6 : Option D), ρ' = [some (.int (n : Int)), some (.at_ u (ctD true m Q)), some (.int (0 + (m : Int))), some (.val (.ref q)), o4, o5, o6] ∧ lkOkE false [o4, o5, o6] = true ∧ O' = [(q, .dictD (TF k3 (fun t => ((cE m Q i t : Nat) : Int)) Q'))] ∧ Q'.Nodup ∧ (∀ t, t ∈ Q' ↔ ∃ s ∈ Q.take i, t ∈ nbS s) ∧ Q'.length ≤ 4 * i ∧ (∀ t, t ∉ Q' → cE m Q i t = 0) ∧ B = B', ⟨[], _, _, _, rfl, ?_, rfl, List.nodup_nil, fun t => ⟨(fun h => nomatch h), fun ⟨q, hq, _⟩ => (nomatch hq)⟩, Nat.le_refl _, fun t _ => prc_nil _ _, rfl⟩, fun i ρ' O' B' hI => ?_, fun i c ρ' O' B' hc hI => ?_, fun ρ' O' B' hI => ?_⟩
      · show (true && (lkOk false (ctD true m Q) && (true && (true && lkOkE false [o4, o5, o6])))) = true
        rw [lk_ct rfl, hlk]; rfl
      · have e : x = (q, .dictD []) := List.mem_singleton.mp hx
        subst e; rfl
      · exact hlk
      · obtain ⟨Q', o4, o5, o6, rfl, _⟩ := hI
        rfl
      · clear hlk o4 o5 o6
        obtain ⟨Q', o4, o5, o6, rfl, hlk, rfl, nd, hme, hlen, hz, rfl⟩ := hI
        rw [TF_kss, List.getElem?_map] at hc
        obtain ⟨s, hs, rfl⟩ := Option.map_eq_some_iff.mp hc
        have hsQ := List.mem_of_getElem? hs
        have hi : i < Q.length := (List.getElem?_eq_some_iff.mp hs).1
        have bx := (hC.bd (by omega) hsQ).1
        refine wg_name ?_
        refine wx_for_str <| we_str ⟨"enws", rfl, fun j ρ' O' B' => ∃ (Q' : List T3) (o5 o6 : Option D), ρ' = [some (.int (n : Int)), some (.at_ u (ctD true m Q)), some (.int (0 + (m : Int))), some (.val (.ref q)), some (.kt (k3 s)), o5, o6] ∧ lkOkE false [o5, o6] = true ∧ O' = [(q, .dictD (TF k3 (fun t => ((cE m Q i t + cw m s * ltC s t j : Nat) : Int)) Q'))] ∧ Q'.Nodup ∧ (∀ t, t ∈ Q' ↔ (∃ s ∈ Q.take i, t ∈ nbS s) ∨ ∃ c ∈ (chS "enws").take j, t = mvS c s) ∧ Q'.length ≤ 4 * i + j ∧ (∀ t, t ∉ Q' → cE m Q i t + cw m s * ltC s t j = 0) ∧ B = B', ⟨Q', o5, o6, rfl, lkOkE_tl hlk, ?_, nd, fun t => ?_, hlen, fun t ht => ?_, rfl⟩, fun j c ρ' O' B' hc hI => ?_, fun ρ' O' B' hI => ?_⟩
        · exact congrArg (fun l => [(q, OC.dictD l)]) (TF_congr fun t _ => rfl)
        · rw [hme t]
          exact ⟨.inl, fun h => h.elim id fun ⟨c, hc, _⟩ => (nomatch hc)⟩
        · exact hz t ht
        · obtain ⟨Q', o5, o6, rfl, _, rfl, nd, hme, hlen, hz, rfl⟩ := hI
          have hcm := List.mem_of_getElem? hc
          have hj : j < 4 := by have := (List.getElem?_eq_some_iff.mp hc).1; rw [chS_enws] at this; exact this
          refine wg_name ?_
          refine wx_seq <| wx_ws <| ws_set <| we_call <| wa_cons <| we_var rfl <| wa_cons <| we_var rfl <| wa_cons <| we_int <| wa_nil ⟨s, c, rfl, hcm, bx.mono (by decide), ?_⟩
          refine wx_putD (n := 0) (i := 3) rfl rfl <| weo_op <| weo_get2 (n := 0) (i := 3) rfl rfl <| we_var rfl ⟨k3 (mvS c s), rfl, we_int ?_⟩
          rw [TF_getD k3_inj' fun h => by rw [hz _ h]; rfl]
          refine weo_we <| we_dgetT <| we_varA rfl ⟨true, _, rfl, we_var rfl ⟨k3 s, .int (cwi m s), rfl, by rw [TF_get k3_inj', if_pos hsQ], ro_i0 <| we_var rfl ⟨k3 (mvS c s), rfl, by rw [TF_len]; omega, ?_⟩⟩⟩
          rw [TF_put k3_inj']
          have hF : ∀ t, upF (fun t => ((cE m Q i t + cw m s * ltC s t j : Nat) : Int)) (mvS c s) (((cE m Q i (mvS c s) + cw m s * ltC s (mvS c s) j : Nat) : Int) + cwi m s) t = ((cE m Q i t + cw m s * ltC s t (j + 1) : Nat) : Int) := fun t => by
            unfold upF
            rw [ltC_next hc]
            by_cases e : t = mvS c s
            · rw [if_pos e, if_pos e.symm, e, Nat.mul_add, Nat.mul_one, show cwi m s = ((cw m s : Nat) : Int) from rfl]
              push_cast; omega
            · rw [if_neg e, if_neg (Ne.symm e), Nat.add_zero]
          refine ⟨adQ Q' (mvS c s), _, _, rfl, rfl, ?_, adQ_nd nd _, fun t => ?_, by have := adQ_len Q' (mvS c s); omega, fun t ht => ?_, rfl⟩
          · show [_] = [_]
            rw [TF_congr fun t _ => hF t]
          · rw [adQ_mem, hme t, List.take_add_one, hc, Option.toList_some]
            constructor
            · rintro ((h | ⟨c', h1, h2⟩) | h)
              · exact .inl h
              · exact .inr ⟨c', List.mem_append_left _ h1, h2⟩
              · exact .inr ⟨c, List.mem_append_right _ (List.mem_singleton.mpr rfl), h⟩
            · rintro (h | ⟨c', h1, h2⟩)
              · exact .inl (.inl h)
              · rcases List.mem_append.mp h1 with h1 | h1
                · exact .inl (.inr ⟨c', h1, h2⟩)
                · rw [List.mem_singleton.mp h1] at h2; exact .inr h2
          · have h1 : t ∉ Q' := fun z => ht (adQ_mem.mpr (.inl z))
            have h2 : ¬ mvS c s = t := fun z => ht (adQ_mem.mpr (.inr z.symm))
            rw [ltC_next hc, if_neg h2, Nat.add_zero]
            exact hz t h1
        · obtain ⟨Q', o5, o6, rfl, hlk, rfl, nd, hme, hlen, hz, rfl⟩ := hI
          have e4 : (chS "enws").length = 4 := by rw [chS_enws]; rfl
          rw [List.take_length] at hme
          rw [e4] at hlen hz ⊢
          refine ⟨Q', _, _, _, rfl, ?_, ?_, nd, fun t => ?_, by omega, fun t ht => ?_, rfl⟩
          · show (true && lkOkE false [o5, o6]) = true
            rw [hlk]; rfl
          · show [_] = [_]
            rw [TF_congr fun t _ => by show ((cE m Q i t + cw m s * ltC s t 4 : Nat) : Int) = ((cE m Q (i + 1) t : Nat) : Int); rw [cE_next hC.nd hs]]
          · rw [hme t, List.take_add_one, hs, Option.toList_some]
            constructor
            · rintro (⟨s', h1, h2⟩ | ⟨c, hc, rfl⟩)
              · exact ⟨s', List.mem_append_left _ h1, h2⟩
              · exact ⟨s, List.mem_append_right _ (List.mem_singleton.mpr rfl), nb_mv.mpr ⟨c, hc, rfl⟩⟩
            · rintro ⟨s', h1, h2⟩
              rcases List.mem_append.mp h1 with h1 | h1
              · exact .inl ⟨s', h1, h2⟩
              · rw [List.mem_singleton.mp h1] at h2; exact .inr (nb_mv.mp h2)
          · rw [cE_next hC.nd hs]; exact hz t ht
      · clear hlk o4 o5 o6
        obtain ⟨Q', o4, o5, o6, rfl, hlk, rfl, nd, hme, hlen, hz, rfl⟩ := hI
        rw [TF_kss, List.length_map] at hme hlen ⊢
        rw [List.take_length] at hme
        refine ⟨?_, fun x hx => ?_, ?_⟩
        · show (true && (lkOk true (ctD true m Q) && (true && (true && lkOkE true [o4, o5, o6])))) = true
          rw [lk_ct rfl, lkOkE_up hlk]; rfl
        · have e := List.mem_singleton.mp hx
          subst e
          exact TF_ints _ _
        · refine wx_tellDD (i := 3) rfl <| wx_ws <| ws_set <| we_var rfl ?_
          rw [TF_congr (F := fun t => ((cE m Q Q.length t : Nat) : Int)) (G := cwi (m + 1)) (Q := Q') fun t _ => by show ((cE m Q Q.length t : Nat) : Int) = _; rw [cE_all hC]]
          refine ⟨⟨Q', _, _, _, _, _, rfl, ⟨nd, fun p => ?_⟩, by rw [Nat.pow_succ]; omega, ?_⟩, rfl⟩
          · rw [hme p]
            show _ ↔ p ∈ (Wks m).flatMap nbS
            rw [List.mem_flatMap]
            constructor
            · rintro ⟨s, h1, h2⟩; exact ⟨s, (hC.me s).mp h1, h2⟩
            · rintro ⟨s, h1, h2⟩; exact ⟨s, (hC.me s).mpr h1, h2⟩
          · exact hlk
    · obtain ⟨⟨Q, o2, o3, o4, o5, o6, rfl, hC, hl, _⟩, rfl⟩ := hI
      rw [Int.toNat_natCast] at hC hl ⊢
      exact ⟨⟨Q, _, _, _, _, _, rfl, hC, hl⟩, rfl⟩
  rintro _ _ ⟨⟨Q, o2, o3, o4, o5, o6, rfl, hC, hl⟩, rfl⟩
  exact ws_ret <| we_var rfl <| hk Q hC hl
end
end AW

set_option linter.all false
set_option maxRecDepth 100000
set_option maxHeartbeats 8000000
namespace AW
open PySem PySem.Spec PyProof.Rows L2 Fewest
variable [Tbs]
section
variable {P : Program} {w : World} {K : PySem.W.Frag} {mg : Str → Option Value} {base : Heap}
theorem lkE_cons {f : Bool} {o : Option D} {ρ : List (Option D)} (h : lkOkE f [o] = true) (h2 : lkOkE f ρ = true) : lkOkE f (o :: ρ) = true := by
  cases o with
  | none => exact h2
  | some d =>
    have h' : (lkOk f d && true) = true := h
    rw [Bool.and_true] at h'
    show (lkOk f d && lkOkE f ρ) = true
    rw [h', h2]; rfl
theorem Wks_b {n : Nat} {p : T3} (hn : n ≤ 20) (hp : p ∈ Wks n) : Bd 100 p.1 ∧ Bd 100 p.2.1 ∧ Bd 100 p.2.2 := by
  obtain ⟨g1, g2⟩ := stF_sq (Wks_st hp).1
  have g3 : (n : Int) * n ≤ 20 * 20 := Int.mul_le_mul (by omega) (by omega) (by omega) (by omega)
  refine ⟨bdS (c := 20) ?_, bdS (c := 20) ?_, bdS (c := 400) ?_⟩
  · unfold ab at g1; omega
  · unfold ab at g1; omega
  · unfold ab at g2; omega
theorem cw_bd {n : Nat} (hn : n ≤ 20) (p : T3) : Bd 100 (cwi n p) := by
  refine Nat.lt_of_le_of_lt (show (cwi n p).natAbs ≤ 4 ^ n from cw_le n p) ?_
  have : (4 : Nat) ^ n ≤ 4 ^ 20 := Nat.pow_le_pow_right (by decide) hn
  exact Nat.lt_of_le_of_lt this (by decide)
theorem chS5 : chS "eenws" = (["e", "e", "n", "w", "s"] : List Str) := by decide +kernel
theorem in5 {c : Str} (h : c ∈ chS "eenws") : c ∈ chS "enws" := by
  rw [chS5] at h; rw [chS_enws]
  simp only [List.mem_cons, List.not_mem_nil, or_false] at h ⊢
  rcases h with h | h | h | h | h <;> simp [h]
def midF (n m : Nat) (q s : T3) : Nat := cw m s * cw (n - m) (muT (ivT s) q)
def pr_l_far_right (T : Tx K mg) : Pr := fun ds B k e => ds = [penF] ∧ B ≤ 800000 ∧ ∀ B', B' ≤ B + 60 → k (.bl true) B'
theorem okD_l_far_right (T : Tx K mg) : FnOk P w K mg base (L2.CX P w) 10 T.a_l_far_right T.d_l_far_right P_l_far_right (spD K (pr_l_far_right T)) := by
  refine T.F_l_far_right.okX sc_l_far_right (spD_len fun ds B k e h => by obtain ⟨rfl, hB, hk⟩ := h; rfl) (fun cdv A outer s H vs Q E hr h => ?_)
  have G_Place_invert : FnOk P w K mg base (L2.CX P w) 6 _ _ _ _ := okD_Place_invert T
  have G_l_counted : FnOk P w K mg base (L2.CX P w) 3 _ _ _ _ := okD_l_counted T
  have G_l_draw : FnOk P w K mg base (L2.CX P w) 1 _ _ _ _ := okD_l_draw T
  have G_l_gone : FnOk P w K mg base (L2.CX P w) 1 _ _ _ _ := okD_l_gone T
  have G_l_pick : FnOk P w K mg base (L2.CX P w) 2 _ _ _ _ := okD_l_pick T
  have G_l_place : FnOk P w K mg base (L2.CX P w) 6 _ _ _ _ := okD_l_place T
  have G_l_times : FnOk P w K mg base (L2.CX P w) 1 _ _ _ _ := okD_l_times T
  have G_l_undone : FnOk P w K mg base (L2.CX P w) 1 _ _ _ _ := okD_l_undone T
  have G_walks_to : FnOk P w K mg base (L2.CX P w) 8 _ _ _ _ := okD_walks_to T
  have hu := hu_of hr
  obtain ⟨G, ds, B, k, e, hs, hR, ⟨rfl, hB, hk⟩, hK, hX⟩ := h
  refine ⟨_, (pss_cons (ps_par (i := 1) (j := 2) (by rfl) sc_l_far_right.nd rfl rfl (by decide) rfl rfl (pa_cons (pe_op op_add pe_int (pe_call G_l_draw (hr.mono (by decide)) (by rfl) T.g_l_draw T.F_l_draw.kp T.b_l_draw .nil passL (pa_cons (pv 0) (pa_cons pe_int pa_nil)))) (pa_cons (pe_op op_add pe_int (pe_call G_l_draw (hr.mono (by decide)) (by rfl) T.g_l_draw T.F_l_draw.kp T.b_l_draw .nil passL (pa_cons (pv 0) (pa_cons pe_int pa_nil)))) pa_nil)) (by rfl))
 (pss_cons (ps_set (i := 3) sc_l_far_right.nd rfl (.inl rfl) (pe_tup (pa_cons pe_int (pa_cons pe_int (pa_cons pe_int pa_nil)))))
 (pss_cons (ps_for (passes_of rfl) rfl (pi_range1 (by rfl) T.n_range (pa_cons (pv 1) pa_nil)) (pg_name (i := 4) sc_l_far_right.nd rfl (.inl rfl))
 (pss_one (ps_set (i := 3) sc_l_far_right.nd rfl (.inl rfl) (pe_call G_l_gone (hr.mono (by decide)) (by rfl) T.g_l_gone T.F_l_gone.kp T.b_l_gone .nil passL (pa_cons (pv 3) (pa_cons (pe_call G_l_pick (hr.mono (by decide)) (by rfl) T.g_l_pick T.F_l_pick.kp T.b_l_pick .nil passL (pa_cons (pv 0) (pa_cons pe_str pa_nil))) (pa_cons pe_int pa_nil)))))))
 (pss_cons (ps_par (i := 5) (j := 6) (by rfl) sc_l_far_right.nd rfl rfl (by decide) rfl rfl (pa_cons (pe_call G_l_counted (hr.mono (by decide)) (by rfl) T.g_l_counted T.F_l_counted.kp T.b_l_counted .nil passL (pa_cons (pv 2) pa_nil)) (pa_cons pe_int pa_nil)) (by rfl))
 (pss_cons (ps_lock (ps_for (passes_of rfl) rfl (pi_keys (pv 5)) (pg_name (i := 7) sc_l_far_right.nd rfl (.inl rfl))
 (pss_one (ps_set (i := 6) sc_l_far_right.nd rfl (.inl rfl) (pe_op op_add (pv 6) (pe_op op_mulW (pe_dget hu (pv 5) (pv 7) (fun _ _ => rfl)) (pe_call G_walks_to (hr.mono (by decide)) (by rfl) T.g_walks_to T.F_walks_to.kp T.b_walks_to .nil passL (pa_cons (pe_call G_l_place (hr.mono (by decide)) (by rfl) T.g_l_place T.F_l_place.kp T.b_l_place .nil passL (pa_cons (pe_call G_l_times (hr.mono (by decide)) (by rfl) T.g_l_times T.F_l_times.kp T.b_l_times .nil passL (pa_cons (pe_call G_l_undone (hr.mono (by decide)) (by rfl) T.g_l_undone T.F_l_undone.kp T.b_l_undone .nil passL (pa_cons (pv 7) pa_nil)) (pa_cons (pv 3) pa_nil))) pa_nil)) (pa_cons (pe_op op_sub (pv 1) (pv 2)) pa_nil)))))))))
 (pss_cons (ps_set (i := 8) sc_l_far_right.nd rfl (.inl rfl) (pe_call G_l_place (hr.mono (by decide)) (by rfl) T.g_l_place T.F_l_place.kp T.b_l_place .nil passL (pa_cons (pv 3) pa_nil)))
 (pss_cons (ps_if (PW.pt (pw_or (pt_cmpR op_ne (pv 6) (pe_call G_walks_to (hr.mono (by decide)) (by rfl) T.g_walks_to T.F_walks_to.kp T.b_walks_to .nil passL (pa_cons (pv 8) (pa_cons (pv 1) pa_nil))) (nomark _)) (pw_or (pt_cmpR op_eq (pv 6) pe_int (nomark _)) (pw_or1 (pt_cmpR op_ne (pe_call G_walks_to (hr.mono (by decide)) (by rfl) T.g_walks_to T.F_walks_to.kp T.b_walks_to .nil passL (pa_cons (pe_un (un_invO T.m_Place_invert T.i_Place_invert G_Place_invert (hr.mono (by decide)) T.b_Place_invert passL) (pv 8)) (pa_cons (pv 1) pa_nil))) (pv 6) (nomark _))))))
 (pss_one (ps_ret pe_bl))
 pss_nil)
 (pss_cons (ps_set (i := 9) sc_l_far_right.nd rfl (.inl rfl) (pe_tup (pa_cons (pe_un un_neg (pe_ix ix_tup (pv 3) pe_int (fun _ _ => rfl))) (pa_cons (pe_ix ix_tup (pv 3) pe_int (fun _ _ => rfl)) (pa_cons (pe_op op_sub (pe_ix ix_tup (pv 3) pe_int (fun _ _ => rfl)) (pe_op op_mulW (pe_ix ix_tup (pv 3) pe_int (fun _ _ => rfl)) (pe_ix ix_tup (pv 3) pe_int (fun _ _ => rfl)))) pa_nil)))))
 (pss_one (ps_ret (pe_and (pe_cmpR op_eq (pe_call G_walks_to (hr.mono (by decide)) (by rfl) T.g_walks_to T.F_walks_to.kp T.b_walks_to .nil passL (pa_cons (pe_call G_l_place (hr.mono (by decide)) (by rfl) T.g_l_place T.F_l_place.kp T.b_l_place .nil passL (pa_cons (pv 9) pa_nil)) (pa_cons (pv 1) pa_nil))) (pv 6) (nomark _)) (pe_one (pe_cmpR op_eq (pe_call G_walks_to (hr.mono (by decide)) (by rfl) T.g_walks_to T.F_walks_to.kp T.b_walks_to .nil passL (pa_cons (pv 8) (pa_cons (pe_op op_add (pv 1) pe_int) pa_nil))) pe_int (nomark _)))))))))))))), run_body (ρ := [some penF, none, none, none, none, none, none, none, none, none]) hs hR hK hX rfl ?_⟩
  have z3 : 3 ≤ sizeLine := by decide
  have gp : ∀ {E : XK} {e : EW} {B : Int} {k : KD} {ta : TE} {i : Int} {ρ : List (Option D)} {d : D} {r : T3}, (We K E e ta ρ B fun d' B' => d' = kt3 r ∧ B' = B) → atI ((k3 r).map kD) i = some d → k d B → We K E e (tOp (rIxT K) ta (tC (.int i))) ρ B k := fun h1 h2 h3 => we_op <| we_wk <| h1.imp fun d' B' ⟨e1, e2⟩ => by subst e1 e2; exact ⟨_, .kt _, we_int <| ro_ixT h2 h3⟩
  refine ws_cut (fun ρ' B' => (∃ n m : Nat, ρ' = [some penF, some (.int (n : Int)), some (.int (m : Int)), none, none, none, none, none, none, none] ∧ 8 ≤ n ∧ n ≤ 12 ∧ 2 ≤ m ∧ m ≤ 4) ∧ B' = B + 1 + 1) ?_ ?_
  · refine ws_par <| wa_cons <| we_op <| we_int <| we_call <| wa_cons <| we_var rfl <| wa_cons <| we_int <| wa_nil ⟨5, rfl, by decide, by decide, by omega, fun a a0 a1 => ro_i0 <| wa_cons <| we_op <| we_int <| we_call <| wa_cons <| we_var rfl <| wa_cons <| we_int <| wa_nil ⟨3, rfl, by decide, by decide, by omega, fun b b0 b1 => ro_i0 <| wa_nil ⟨_, _, rfl, ?_⟩⟩⟩
    obtain ⟨n, hn⟩ : ∃ n : Nat, 8 + a = (n : Int) := ⟨(8 + a).toNat, by omega⟩
    obtain ⟨m, hm⟩ : ∃ m : Nat, 2 + b = (m : Int) := ⟨(2 + b).toNat, by omega⟩
    rw [hn, hm]
    exact ⟨⟨n, m, rfl, by omega, by omega, by omega, by omega⟩, rfl⟩
  rintro _ _ ⟨⟨n, m, rfl, n8, n12, m2, m4⟩, rfl⟩
  refine ws_seq <| ws_set <| we_kt <| wa_cons <| we_int <| wa_cons <| we_int <| wa_cons <| we_int <| wa_nil ⟨k3 (0, 0, 0), rfl, z3, ?_⟩
  refine ws_cut (fun ρ' B' => (∃ (q : T3) (o4 : Option D), ρ' = [some penF, some (.int (n : Int)), some (.int (m : Int)), some (kt3 q), o4, none, none, none, none, none] ∧ q ∈ Wks n ∧ lkOkE false [o4] = true) ∧ B' ≤ B + 2 + n) ?_ ?_
  · refine ws_for_range1 <| wa_cons <| we_var rfl <| wa_nil ⟨(n : Int), rfl, by omega, by omega, fun i ρ' B' => (∃ (q : T3) (o4 : Option D), ρ' = [some penF, some (.int (n : Int)), some (.int (m : Int)), some (kt3 q), o4, none, none, none, none, none] ∧ q ∈ Wks i ∧ lkOkE false [o4] = true) ∧ B' ≤ B + 2 + i, ⟨⟨_, _, rfl, List.mem_singleton.mpr rfl, rfl⟩, by omega⟩, fun i ρ' B' hi hI => ?_, fun ρ' B' hI => ?_⟩
    · obtain ⟨⟨q, o4, rfl, hq, _⟩, hB'⟩ := hI
      rw [Int.toNat_natCast] at hi
      have bq := Wks_b (by omega) hq
      have l5 : ("eenws" : Str).length = 5 := by decide +kernel
      refine wg_name ?_
      refine ws_set <| we_call <| wa_cons <| we_var rfl <| wa_cons <| we_call <| wa_cons <| we_var rfl <| wa_cons <| we_str <| wa_nil ⟨_, rfl, .inr ⟨_, rfl, by rw [l5]; decide, by rw [l5]; decide, by omega, fun c hc => wa_cons <| we_int <| wa_nil ⟨q, c, rfl, in5 hc, bq.1.mono (by decide), ⟨⟨mvS c q, _, rfl, List.mem_flatMap.mpr ⟨q, hq, nb_mv.mpr ⟨c, in5 hc, rfl⟩⟩, rfl⟩, by push_cast; omega⟩⟩⟩⟩
    · obtain ⟨⟨q, o4, rfl, hq, hlk⟩, hB'⟩ := hI
      rw [Int.toNat_natCast] at hq hB'
      exact ⟨⟨q, o4, rfl, hq, hlk⟩, hB'⟩
  rintro _ B2 ⟨⟨q, o4, rfl, hq, hlk4⟩, hB2⟩
  have bq := Wks_b (by omega) hq
  refine ws_seq <| ws_par <| wa_cons <| we_call <| wa_cons <| we_var rfl <| wa_nil ⟨m, rfl, by omega, fun Q hC hQl => wa_cons <| we_int <| wa_nil ⟨_, _, rfl, ?_⟩⟩
  refine ws_cut (fun ρ' B' => (∃ o7, ρ' = [some penF, some (.int (n : Int)), some (.int (m : Int)), some (kt3 q), o4, some (ctD false m Q), some (.int (cwi n q)), o7, none, none]) ∧ B2 = B') ?_ ?_
  · refine ws_for_dt (i := 5) rfl (fun u => ?_) fun u => ⟨fun i ρ' B' => (∃ (o7 : Option D), ρ' = [some penF, some (.int (n : Int)), some (.int (m : Int)), some (kt3 q), o4, some (.at_ u (ctD true m Q)), some (.int ((sm (midF n m q) (Q.take i) : Nat) : Int)), o7, none, none] ∧ lkOkE false [o7] = true) ∧ B2 = B', ⟨⟨none, rfl, rfl⟩, rfl⟩, fun i ρ' B' hI => ?_, fun i c ρ' B' hc hI => ?_, fun ρ' B' hI => ?_⟩
    · show (true && (true && (true && (true && lkOkE false (o4 :: [some (.at_ u (ctD true m Q)), some (.int 0), none, none, none]))))) = true
      rw [lkE_cons hlk4 (by show (lkOk false (ctD true m Q) && true) = true; rw [lk_ct rfl]; rfl)]; rfl
    · obtain ⟨⟨o7, rfl, _⟩, _⟩ := hI
      rfl
    · obtain ⟨⟨o7, rfl, _⟩, rfl⟩ := hI
      rw [TF_kss, List.getElem?_map] at hc
      obtain ⟨s, hs, rfl⟩ := Option.map_eq_some_iff.mp hc
      have hsQ := List.mem_of_getElem? hs
      have bs := hC.bd (by omega) hsQ
      have e : sm (midF n m q) (Q.take (i + 1)) = sm (midF n m q) (Q.take i) + midF n m q s := by
        rw [List.take_add_one, hs, Option.toList_some, sm_append, sm_cons, sm_nil, Nat.add_zero]
      refine wg_name ?_
      refine ws_set <| we_op <| we_var rfl <| we_op <| we_dgetT <| we_varA rfl ⟨true, _, rfl, we_var rfl ⟨k3 s, .int (cwi m s), rfl, by rw [TF_get k3_inj', if_pos hsQ], ?_⟩⟩
      refine we_call <| wa_cons <| we_call <| wa_cons <| we_call <| wa_cons <| we_call <| wa_cons <| we_var rfl <| wa_nil ⟨s, rfl, cmw (bs.1.mono (by decide)) (bs.2.1.mono (by decide)), wa_cons <| we_var rfl <| wa_nil ⟨unS s, q, rfl, cmw (bs.1.neg.mono (by decide)) (bq.2.1.mono (by decide)), wa_nil ⟨tmS (unS s) q, rfl, wa_cons <| we_op <| we_var rfl <| we_var rfl <| ro_i0 <| wa_nil ⟨_, _, rfl, .inl ⟨n - m, tmS (unS s) q, rfl, by show D.int ((n : Int) - (m : Int)) = .int ((n - m : Nat) : Int); congr 1; omega, by omega, ?_, ?_⟩⟩⟩⟩⟩
      · refine ⟨(bs.1.neg.add bq.1).mono (by decide), (bs.2.1.neg.add bq.2.1).mono (by decide), ?_⟩
        exact (Bd.add (Bd.add (Bd.sub (bs.1.mul bs.2.1) (bs.2.2.mono (by decide : 100 ≤ 100 + 100))) (bq.2.2.mono (by decide : 100 ≤ 100 + 100 + 1))) ((bs.1.neg.mul bq.2.1).mono (by decide : 100 + 100 ≤ 100 + 100 + 1 + 1))).mono (by decide)
      · refine ro_i (cmw ((cw_bd (by omega) s).mono (by decide)) ((cw_bd (n := n - m) (by omega) _).mono (by decide))) <| ro_i0 ⟨⟨some (kt3 s), ?_, rfl⟩, rfl⟩
        rw [e]
        have e2 : (((sm (midF n m q) (Q.take i) : Nat) : Int) + cwi m s * ((cw (n - m) (tmS (unS s) q) : Nat) : Int)) = ((sm (midF n m q) (Q.take i) + midF n m q s : Nat) : Int) := by
          unfold midF; push_cast; rfl
        rw [e2]; rfl
    · obtain ⟨⟨o7, rfl, hlk⟩, rfl⟩ := hI
      rw [TF_kss, List.length_map, List.take_length]
      refine ⟨?_, ⟨o7, ?_⟩, rfl⟩
      · show (true && (true && (true && (true && lkOkE true (o4 :: [some (.at_ u (ctD true m Q)), some (.int _), o7, none, none]))))) = true
        rw [lkE_cons (lkOkE_up hlk4) (by show (lkOk true (ctD true m Q) && (true && lkOkE true (o7 :: [none, none]))) = true; rw [lk_ct rfl, lkE_cons (lkOkE_up hlk) rfl]; rfl)]; rfl
      · have := cw_mid m (n - m) q hC.nd fun p hp => (hC.me p).mpr hp
        rw [show m + (n - m) = n by omega] at this
        show _ = [some penF, some (.int (n : Int)), some (.int (m : Int)), some (kt3 q), o4, some (ctD false m Q), some (.int ((cw n q : Nat) : Int)), o7, none, none]
        rw [this, show ctD false m Q = .dt false (Q.map k3) ((TF k3 (cwi m) Q).map (·.2)) by show D.dt false ((TF k3 (cwi m) Q).map (·.1)) _ = _; rw [TF_kss]]; rfl
  rintro _ _ ⟨⟨o7, rfl⟩, rfl⟩
  refine ws_seq <| ws_set <| we_call <| wa_cons <| we_var rfl <| wa_nil ⟨q, rfl, ?_⟩
  have b3 : Bd 3000 q.1 ∧ Bd 3000 q.2.1 ∧ Bd 3000 q.2.2 := ⟨bq.1.mono (by decide), bq.2.1.mono (by decide), bq.2.2.mono (by decide)⟩
  have cm : CMulW q.1 q.2.1 := cmw (bq.1.mono (by decide)) (bq.2.1.mono (by decide))
  have pos : ((cw n q : Nat) : Int) ≠ 0 := by
    have := cw_pos.mpr hq
    omega
  refine ws_seq <| ws_if <| wt_or <| wt_test <| we_op <| we_var rfl <| we_call <| wa_cons <| we_var rfl <| wa_cons <| we_var rfl <| wa_nil ⟨_, _, rfl, .inl ⟨n, q, rfl, rfl, by omega, b3, ro_neI ⟨_, rfl, fun h => ⟨fun _ => ?_, fun z => nomatch z⟩, fun _ => ?_⟩⟩⟩
  · exact (ne_of_dec h rfl).elim
  refine wt_or <| wt_test <| we_op <| we_var rfl <| we_int <| ro_eqI ⟨_, rfl, fun h => ⟨fun _ => ?_, fun z => nomatch z⟩, fun _ => ?_⟩
  · exact absurd (of_decide_eq_true h) pos
  refine wt_test <| we_op <| we_call <| wa_cons <| we_inv T <| we_var rfl ⟨_, _, _, rfl, _, _, _, rfl, cm, wa_cons <| we_var rfl <| wa_nil ⟨_, _, rfl, .inl ⟨n, ivT q, rfl, rfl, by omega, ?_, ?_⟩⟩⟩
  · exact ⟨(bq.1.neg).mono (by decide), (bq.2.1.neg).mono (by decide), (Bd.sub (bq.1.mul bq.2.1) (bq.2.2.mono (by decide : 100 ≤ 100 + 100))).mono (by decide)⟩
  rw [cw_iv]
  refine we_var rfl <| ro_neI ⟨_, rfl, fun h => (ne_of_dec h rfl).elim, fun _ => ws_next ?_⟩
  refine ws_seq <| ws_set <| we_kt <| wa_cons <| we_neg <| gp (we_var rfl ⟨rfl, rfl⟩) rfl ⟨_, rfl, wa_cons <| gp (we_var rfl ⟨rfl, rfl⟩) rfl <| wa_cons <| we_op <| gp (we_var rfl ⟨rfl, rfl⟩) rfl <| we_op <| gp (we_var rfl ⟨rfl, rfl⟩) rfl <| gp (we_var rfl ⟨rfl, rfl⟩) rfl <| ro_i cm <| ro_i0 <| wa_nil ⟨k3 (tuT q), ktD (_, _, _), z3, ?_⟩⟩
  refine ws_ret <| we_and <| we_op <| we_call <| wa_cons <| we_call <| wa_cons <| we_var rfl <| wa_nil ⟨tuT q, rfl, wa_cons <| we_var rfl <| wa_nil ⟨_, _, rfl, .inl ⟨n, tuT q, rfl, rfl, by omega, ?_, ?_⟩⟩⟩
  · exact ⟨(bq.2.1.neg).mono (by decide), (bq.1).mono (by decide), (Bd.sub (bq.2.2.mono (by decide : 100 ≤ 100 + 100)) (bq.1.mul bq.2.1)).mono (by decide)⟩
  rw [cw_tu]
  refine we_var rfl <| ro_eqI ⟨_, rfl, fun _ => ?_, fun h => absurd rfl (of_decide_eq_false h)⟩
  have ez : cw (n + 1) q = 0 := cw_zero fun z => by
    have h1 := (Wks_st hq).2
    have h2 := z.2
    push_cast at h2
    omega
  refine we_op <| we_call <| wa_cons <| we_var rfl <| wa_cons <| we_op <| we_var rfl <| we_int <| ro_i0 <| wa_nil ⟨_, _, rfl, .inl ⟨n + 1, q, rfl, by push_cast; rfl, by omega, b3, we_int <| ro_eqI ?_⟩⟩
  rw [ez]
  exact hk _ (by omega)
end
end AW

set_option linter.all false
set_option maxRecDepth 100000
set_option maxHeartbeats 8000000
namespace AW
open PySem PySem.Spec PyProof.Rows L2 LamX
variable [Tbs]
section
variable {P : Program} {w : World} {K : PySem.W.Frag} {mg : Str → Option Value} {base : Heap}

/-- the error that came, told: a new tuple -/
def Told (H : Hp) (Q : VK) (x : Str) (v : V) : Prop := ∀ t, H t = none → Q (.ref t) (upd H t (.tup [.str x, v]))
def TTl_refused (T : Tx K mg) : (XK → Hp → VK → Prop) → Hp → VK → Prop := fun tl H Q =>
  tl (fun cls d H' => (cls = .ref T.C_BadPlace ∧ ∃ dd v, d = some dd ∧ H' dd = some (.xd [("value", v)]) ∧ Told H' Q "place" v) ∨ (cls = .ref T.C_BadNumber ∧ ∃ dd v, d = some dd ∧ H' dd = some (.xd [("value", v)]) ∧ Told H' Q "number" v) ∨ (cls = .ref T.C_TooFar ∧ ∃ dd v, d = some dd ∧ H' dd = some (.xd [("number", v)]) ∧ Told H' Q "far" v)) H (fun _ H' => Q .non H')
def eRef (T : Tx K mg) (k : KD) : EW := fun C f B => (C = T.C_BadPlace ∧ ∃ d, f = some ((["value"] : List Str), [d]) ∧ k (.tup [.str "place", d]) B) ∨ (C = T.C_BadNumber ∧ ∃ d, f = some ((["value"] : List Str), [d]) ∧ k (.tup [.str "number", d]) B) ∨ (C = T.C_TooFar ∧ ∃ d, f = some ((["number"] : List Str), [d]) ∧ k (.tup [.str "far", d]) B)
theorem tt_ref (T : Tx K mg) : TTok K (TTl_refused T) (eRef T) (fun k _ B => k .non B) := ⟨fun tl k G H B Q s kq h => by
  refine h _ _ (fun C f B' G' H' hw ex => ?_) (fun d v B' G' H' hk ex _ => kq .non _ _ _ _ hk ex rfl)
  rcases hw with ⟨rfl, d, rfl, hk⟩ | ⟨rfl, d, rfl, hk⟩ | ⟨rfl, d, rfl, hk⟩
  · intro dx vs hd hl hr
    obtain ⟨v, _, rfl, rv, rfl⟩ := hr
    refine .inl ⟨rfl, dx, v, rfl, hd, fun t nt => kq _ _ _ _ _ hk (ex.trans (Ext.new (B := B') ex.sub nt)) ?_⟩
    exact ⟨t, _, rfl, SqT.of upd_same, _, _, rfl, rfl, _, _, rfl, rv.mono (Ext.new (B := B') ex.sub nt).le, rfl⟩
  · intro dx vs hd hl hr
    obtain ⟨v, _, rfl, rv, rfl⟩ := hr
    refine .inr <| .inl ⟨rfl, dx, v, rfl, hd, fun t nt => kq _ _ _ _ _ hk (ex.trans (Ext.new (B := B') ex.sub nt)) ?_⟩
    exact ⟨t, _, rfl, SqT.of upd_same, _, _, rfl, rfl, _, _, rfl, rv.mono (Ext.new (B := B') ex.sub nt).le, rfl⟩
  · intro dx vs hd hl hr
    obtain ⟨v, _, rfl, rv, rfl⟩ := hr
    refine .inr <| .inr ⟨rfl, dx, v, rfl, hd, fun t nt => kq _ _ _ _ _ hk (ex.trans (Ext.new (B := B') ex.sub nt)) ?_⟩
    exact ⟨t, _, rfl, SqT.of upd_same, _, _, rfl, rfl, _, _, rfl, rv.mono (Ext.new (B := B') ex.sub nt).le, rfl⟩⟩
theorem takes_len {X : Cx} {W : WX} (tk : Takes X W) : Takes X (fun cls d σ H => σ.length = X.N.length → W cls d σ H) := fun u s' ⟨a, B, sI, pins, σ, H, cls, d, e, I, nb, up, sky, na, os, ag, w⟩ =>
  tk u s' ⟨a, B, sI, pins, σ, H, cls, d, e, I, nb, up, sky, na, os, ag, w I.len⟩
theorem l_refused_gives (T : Tx K mg) {X : Cx} (hK : X.K = K) (hmg : X.mg = mg) {cdg : Value} {q : Str} {mk : Addr → Addr → HO} :
    GivesK X N_l_refused "_law_refused" (defScope s_l_refused) T.a_l_refused cdg (defBody s_l_refused) "_law_deed" q mk (TTl_refused T) := by
  subst hK
  subst hmg
  intro f c' s H Q tl act hf hc h
  refine ⟨_, pss_one (ps_try_manyA (X := (cxOf C8.CX0 X.prog X.w X.K X.mg X.base N_l_refused "_law_refused" (defScope s_l_refused) T.a_l_refused cdg X.A X.stack s H C8.E0).nox)
      (tb := fun W D σ H => ∃ Ech : XK, (∀ cls d σ' H', Ech cls d H' → σ'.length = 2 → W cls d σ' H') ∧ σ[0]? = some (some (.ref f)) ∧ H f = some (mk f c') ∧ H c' = some (CodeO c' q) ∧ tl Ech H (fun _ H' => D.nx σ H'))
      (l := [(.ref T.C_BadPlace, 1, fun a cls d => tRet (tTup (tCons (tC (.str "place")) (tCons (tXf a cls d T.C_BadPlace "value" (tVar 1)) tNil)))), (.ref T.C_BadNumber, 1, fun a cls d => tRet (tTup (tCons (tC (.str "number")) (tCons (tXf a cls d T.C_BadNumber "value" (tVar 1)) tNil)))), (.ref T.C_TooFar, 1, fun a cls d => tRet (tTup (tCons (tC (.str "far")) (tCons (tXf a cls d T.C_TooFar "number" (tVar 1)) tNil))))])
      rfl rfl sc_l_refused.nd L2.takes0 (fun W pn xe tk _ => ?_)
      (.cons rfl rfl ⟨rfl, by decide, .inl T.g_C_BadPlace⟩ (fun a oe cls d pn hz hf => pss_one (ps_ret (pe_tup (pa_cons pe_str (pa_cons (pe_xf T.Y_BadPlace T.na_BadPlace_value hz hf (pv 1)) pa_nil))))) (.cons rfl rfl ⟨rfl, by decide, .inl T.g_C_BadNumber⟩ (fun a oe cls d pn hz hf => pss_one (ps_ret (pe_tup (pa_cons pe_str (pa_cons (pe_xf T.Y_BadNumber T.na_BadNumber_value hz hf (pv 1)) pa_nil))))) (.cons rfl rfl ⟨rfl, by decide, .inl T.g_C_TooFar⟩ (fun a oe cls d pn hz hf => pss_one (ps_ret (pe_tup (pa_cons pe_str (pa_cons (pe_xf T.Y_TooFar T.na_TooFar_number hz hf (pv 1)) pa_nil))))) .nil)))), ?_⟩
  · refine ⟨fun pins s' σ H' D I h' => ?_⟩
    obtain ⟨Ech, hW, h1, h2, h3, h4⟩ := h'
    have hp := fun p1 p2 => act _ pn xe Ech p1 p2 (takes_len tk) hW
    exact (pss_one (ps_expr (hp _ _))).run pins s' σ H' D I ⟨h1, h2, h3, h4⟩
  · have get1 : ∀ (σ' : L2.St) (a : Addr), σ'.length = 2 → (σ'.set 1 (some (V.ref a)))[1]? = some (some (V.ref a)) := fun σ' a hl => by
      rw [List.getElem?_set_self (by omega)]
    refine ⟨fun cls d H' => (cls = .ref T.C_BadPlace ∧ ∃ dd v, d = some dd ∧ H' dd = some (.xd [("value", v)]) ∧ Told H' Q "place" v) ∨ (cls = .ref T.C_BadNumber ∧ ∃ dd v, d = some dd ∧ H' dd = some (.xd [("value", v)]) ∧ Told H' Q "number" v) ∨ (cls = .ref T.C_TooFar ∧ ∃ dd v, d = some dd ∧ H' dd = some (.xd [("number", v)]) ∧ Told H' Q "far" v), ?_, rfl, hf, hc, h⟩
    rintro cls d σ' H' (⟨rfl, dd, v, rfl, hd, k⟩ | ⟨rfl, dd, v, rfl, hd, k⟩ | ⟨rfl, dd, v, rfl, hd, k⟩) hl
    · refine ⟨true, T.em_BadPlace_BadPlace, fun _ a na => ?_, fun z => nomatch z⟩
      refine ⟨_, get1 σ' a hl, rfl, rfl, dd, _, v, rfl, hd, by simp [List.lookup], (by show 2 ≤ sizeLine; decide), fun t nt => ?_⟩
      exact k t nt
    · refine ⟨false, T.em_BadNumber_BadPlace, (fun z => nomatch z), fun _ => ⟨true, T.em_BadNumber_BadNumber, fun _ a na => ?_, fun z => nomatch z⟩⟩
      refine ⟨_, get1 σ' a hl, rfl, rfl, dd, _, v, rfl, hd, by simp [List.lookup], (by show 2 ≤ sizeLine; decide), fun t nt => ?_⟩
      exact k t nt
    · refine ⟨false, T.em_TooFar_BadPlace, (fun z => nomatch z), fun _ => ⟨false, T.em_TooFar_BadNumber, (fun z => nomatch z), fun _ => ⟨true, T.em_TooFar_TooFar, fun _ a na => ?_, fun z => nomatch z⟩⟩⟩
      refine ⟨_, get1 σ' a hl, rfl, rfl, dd, _, v, rfl, hd, by simp [List.lookup], (by show 2 ≤ sizeLine; decide), fun t nt => ?_⟩
      exact k t nt
end
end AW

set_option linter.all false
set_option maxRecDepth 100000
set_option maxHeartbeats 8000000
namespace AW
open PySem PySem.Spec PyProof.Rows L2 Fewest
variable [Tbs]
section
variable {P : Program} {w : World} {K : PySem.W.Frag} {mg : Str → Option Value} {base : Heap}
abbrev lamQ_l_wrong_right : Str := (envOfC "_law_wrong_right" (defScope s_l_wrong_right) 0 0 .none).qual ++ "<lambda>"
def tabs1 (T : Tx K mg) : List (Addr × Str) := [(T.pt_l_wrong_right, lamQ_l_wrong_right)]
def pr_l_wrong_right (T : Tx K mg) : Pr := fun ds B k e => ds = [penF] ∧ B ≤ 800000 ∧ ∀ B', k (.bl true) B'
theorem okD_l_wrong_right (T : Tx K mg) (TB : LamX.TabB base mg T.cc_l_wrong_right T.pt_l_wrong_right) (hT : Tbs.T = tabs1 T) (hN : ((tabs1 T).map Prod.fst).Nodup) : FnOk P w K mg base (L2.CX P w) 13 T.a_l_wrong_right T.d_l_wrong_right P_l_wrong_right (spD K (pr_l_wrong_right T)) := by
  refine T.FC_l_wrong_right.okX sc_l_wrong_right (spD_len fun ds B k e h => by obtain ⟨rfl, hB, hk⟩ := h; rfl) (fun A outer s H vs Q E hr h => ?_)
  have hmT : (T.pt_l_wrong_right, lamQ_l_wrong_right) ∈ (Tbs.T : List (Addr × Str)) := by rw [hT]; unfold tabs1; simp
  have huT : ∀ p ∈ (Tbs.T : List (Addr × Str)), p.1 = T.pt_l_wrong_right → p.2 = lamQ_l_wrong_right := tab_uniq (by rw [hT]; exact hN) hmT
  obtain ⟨oc_l_refused, od_l_refused, kV_l_refused, dc_l_refused, pm_l_refused, an_l_refused, cdv_l_refused, ct_l_refused, osl_l_refused, e_l_refused, lk_l_refused, cd_l_refused⟩ := T.F_l_refused.ex
  have bd_l_refused : Binds K T.d_l_refused P_l_refused [] := T.b_l_refused
  rw [e_l_refused] at lk_l_refused bd_l_refused
  have G_Place_init : FnOk P w K mg base (L2.CX P w) _ _ _ _ _ := okD_Place_init T
  have G_l_great : FnOk P w K mg base (L2.CX P w) 3 _ _ _ _ := okD_l_great T
  have G_l_pick : FnOk P w K mg base (L2.CX P w) 2 _ _ _ _ := okD_l_pick T
  have G_least_walks : FnOk P w K mg base (L2.CX P w) 9 _ _ _ _ := okD_least_walks T
  have G_walks_to : FnOk P w K mg base (L2.CX P w) 8 _ _ _ _ := okD_walks_to T
  obtain ⟨G, ds, B, k, e, hs, hR, ⟨rfl, hB, hk⟩, hK, hX⟩ := h
  refine ⟨_, (pss_cons (ps_asg (pe_tup (pa_cons (pe_make T.M_Place G_Place_init (hr.mono (by decide)) (by rfl) T.g_C_Place T.b_Place_init .nil passL (pa_cons pe_int (pa_cons pe_int (pa_cons pe_int pa_nil)))) (pa_cons (pe_op op_add pe_int (pe_call G_l_great (hr.mono (by decide)) (by rfl) T.g_l_great T.F_l_great.kp T.b_l_great .nil passL (pa_cons (pv 0) (pa_cons pe_int pa_nil)))) pa_nil))) (pg_tup rfl (pgs_cons (pg_name (i := 1) sc_l_wrong_right.nd rfl (.inr rfl)) (pgs_cons (pg_name (i := 2) sc_l_wrong_right.nd rfl (.inr rfl)) pgs_nil))))
 (pss_cons (ps_set (i := 3) sc_l_wrong_right.nd rfl (.inr rfl) (pe_call G_l_pick (hr.mono (by decide)) (by rfl) T.g_l_pick T.F_l_pick.kp T.b_l_pick .nil passL (pa_cons (pv 0) (pa_cons (pe_lst (pa_cons pe_non (pa_cons (pe_tup (pa_cons pe_int (pa_cons pe_int (pa_cons pe_int pa_nil)))) (pa_cons pe_str (pa_cons pe_int pa_nil))))) pa_nil))))
 (pss_cons (ps_set (i := 4) sc_l_wrong_right.nd rfl (.inr rfl) (pe_call G_l_pick (hr.mono (by decide)) (by rfl) T.g_l_pick T.F_l_pick.kp T.b_l_pick .nil passL (pa_cons (pv 0) (pa_cons (pe_lst (pa_cons pe_non (pa_cons (pe_un un_neg pe_int) (pa_cons pe_bl (pa_cons pe_str pa_nil))))) pa_nil))))
 (pss_cons (ps_if (pt_cmpR (op_neD hr.units) (pe_lamarg (T := Tbs.T) (TT := TTl_refused T) (t := fun E => (tCall (spD K (pr_walks_to T)) [] E (tCons (tVar 3) (tCons (tVar 4) tNil)))) (k := 10) (by rfl) T.g_l_refused T.F_l_refused.kp lk_l_refused cd_l_refused bd_l_refused sc_l_refused rfl (.inl rfl) (l_refused_gives T rfl rfl) TB rfl hmT (hr.mono (by decide)) (LamX.lamS_by (sc := defScope s_l_wrong_right) (by decide +kernel)) rfl (fun _ _ _ _ _ => rfl) (fun A outer s H E f d hr => (pe_call G_walks_to (hr.mono (by decide)) (by rfl) T.g_walks_to T.F_walks_to.kp T.b_walks_to .nil (passE (E := E)) (pa_cons (pv 3) (pa_cons (pv 4) pa_nil))))) (pe_tup (pa_cons pe_str (pa_cons (pv 3) pa_nil))) (nomark _))
 (pss_one (ps_ret pe_bl))
 pss_nil)
 (pss_cons (ps_if (pt_cmpR (op_neD hr.units) (pe_lamarg (T := Tbs.T) (TT := TTl_refused T) (t := fun E => (tCall (spD K (pr_walks_to T)) [] E (tCons (tVar 1) (tCons (tVar 4) tNil)))) (k := 10) (by rfl) T.g_l_refused T.F_l_refused.kp lk_l_refused cd_l_refused bd_l_refused sc_l_refused rfl (.inl rfl) (l_refused_gives T rfl rfl) TB rfl hmT (hr.mono (by decide)) (LamX.lamS_by (sc := defScope s_l_wrong_right) (by decide +kernel)) rfl (fun _ _ _ _ _ => rfl) (fun A outer s H E f d hr => (pe_call G_walks_to (hr.mono (by decide)) (by rfl) T.g_walks_to T.F_walks_to.kp T.b_walks_to .nil (passE (E := E)) (pa_cons (pv 1) (pa_cons (pv 4) pa_nil))))) (pe_tup (pa_cons pe_str (pa_cons (pv 4) pa_nil))) (nomark _))
 (pss_one (ps_ret pe_bl))
 pss_nil)
 (pss_cons (ps_if (pt_cmpR (op_neD hr.units) (pe_lamarg (T := Tbs.T) (TT := TTl_refused T) (t := fun E => (tCall (spD K (pr_walks_to T)) [] E (tCons (tVar 1) (tCons (tVar 2) tNil)))) (k := 10) (by rfl) T.g_l_refused T.F_l_refused.kp lk_l_refused cd_l_refused bd_l_refused sc_l_refused rfl (.inl rfl) (l_refused_gives T rfl rfl) TB rfl hmT (hr.mono (by decide)) (LamX.lamS_by (sc := defScope s_l_wrong_right) (by decide +kernel)) rfl (fun _ _ _ _ _ => rfl) (fun A outer s H E f d hr => (pe_call G_walks_to (hr.mono (by decide)) (by rfl) T.g_walks_to T.F_walks_to.kp T.b_walks_to .nil (passE (E := E)) (pa_cons (pv 1) (pa_cons (pv 2) pa_nil))))) (pe_tup (pa_cons pe_str (pa_cons (pv 2) pa_nil))) (nomark _))
 (pss_one (ps_ret pe_bl))
 pss_nil)
 (pss_cons (ps_if (pt_cmpR (op_neD hr.units) (pe_lamarg (T := Tbs.T) (TT := TTl_refused T) (t := fun E => (tCall (spD K (pr_least_walks T)) [] E (tCons (tVar 3) tNil))) (k := 10) (by rfl) T.g_l_refused T.F_l_refused.kp lk_l_refused cd_l_refused bd_l_refused sc_l_refused rfl (.inl rfl) (l_refused_gives T rfl rfl) TB rfl hmT (hr.mono (by decide)) (LamX.lamS_by (sc := defScope s_l_wrong_right) (by decide +kernel)) rfl (fun _ _ _ _ _ => rfl) (fun A outer s H E f d hr => (pe_call G_least_walks (hr.mono (by decide)) (by rfl) T.g_least_walks T.F_least_walks.kp T.b_least_walks .nil (passE (E := E)) (pa_cons (pv 3) pa_nil)))) (pe_tup (pa_cons pe_str (pa_cons (pv 3) pa_nil))) (nomark _))
 (pss_one (ps_ret pe_bl))
 pss_nil)
 (pss_one (ps_ret (pe_cmpR (op_eqD hr.units) (pe_lamarg (T := Tbs.T) (TT := TTl_refused T) (t := fun E => (tCall (spD K (pr_least_walks T)) [] E (tCons (tMake T.C_Place (spI K T.C_Place ["x", "y", "area"] pr_Place_init) [] E (tCons (tVar 2) (tCons (tC (.int 0)) (tCons (tC (.int 0)) tNil)))) tNil))) (k := 10) (by rfl) T.g_l_refused T.F_l_refused.kp lk_l_refused cd_l_refused bd_l_refused sc_l_refused rfl (.inl rfl) (l_refused_gives T rfl rfl) TB rfl hmT (hr.mono (by decide)) (LamX.lamS_by (sc := defScope s_l_wrong_right) (by decide +kernel)) rfl (fun _ _ _ _ _ => rfl) (fun A outer s H E f d hr => (pe_call G_least_walks (hr.mono (by decide)) (by rfl) T.g_least_walks T.F_least_walks.kp T.b_least_walks .nil (passE (E := E)) (pa_cons (pe_make T.M_Place G_Place_init (hr.mono (by decide)) (by rfl) T.g_C_Place T.b_Place_init .nil (passE (E := E)) (pa_cons (pv 2) (pa_cons pe_int (pa_cons pe_int pa_nil)))) pa_nil)))) (pe_tup (pa_cons pe_str (pa_cons (pv 2) pa_nil))) (nomark _))))))))))), run_body (ρ := [some penF, none, none, none, none]) hs hR hK hX rfl ?_⟩
  have z3 : 3 ≤ sizeLine := by decide
  refine ws_cut (fun ρ' B' => ∃ n : Int, ρ' = [some penF, some (plT T (1, 0, 0)), some (.int n), none, none] ∧ 20 < n ∧ Bd 500 n ∧ B' ≤ B + 16) ?_ ?_
  · refine ws_asg <| we_tup <| wa_cons <| we_place T <| wa_cons <| we_int <| wa_cons <| we_int <| wa_cons <| we_int <| wa_nil ⟨1, 0, 0, rfl, wa_cons <| we_op <| we_int <| we_call <| wa_cons <| we_var rfl <| wa_cons <| we_int <| wa_nil ⟨40, rfl, by decide, by decide, by omega, fun g B' g0 bg hB' => ro_i0 <| wa_nil ⟨Nat.le_of_ble_eq_true rfl, wg_tup rfl <| wgs_cons <| wg_name <| wgs_cons <| wg_name <| wgs_nil ⟨21 + g, rfl, by omega, ?_, hB'⟩⟩⟩⟩
    exact (Bd.add (show Bd 400 21 from Nat.lt_of_lt_of_le (by decide : 21 < 2 ^ 5) (Nat.pow_le_pow_right (by decide) (by decide))) bg).mono (by decide)
  rintro _ B2 ⟨n, rfl, hn, bn, hB2⟩
  refine ws_cut (fun ρ' B' => ∃ d : D, ρ' = [some penF, some (plT T (1, 0, 0)), some (.int n), some d, none] ∧ (d = .non ∨ d = .tup [.int 0, .int 0, .int 0] ∨ d = .str "e" ∨ d = .int 3) ∧ B' ≤ B + 20) ?_ ?_
  · refine ws_set <| we_call <| wa_cons <| we_var rfl <| wa_cons <| we_lst <| wa_cons <| we_non <| wa_cons <| we_tup <| wa_cons <| we_int <| wa_cons <| we_int <| wa_cons <| we_int <| wa_nil ⟨z3, wa_cons <| we_str <| wa_cons <| we_int <| wa_nil ⟨Nat.le_of_ble_eq_true rfl, wa_nil ⟨_, rfl, .inl ⟨_, rfl, by show 0 < 4; decide, by show 4 ≤ 1000000; decide, by omega, fun d hd => ⟨d, rfl, ?_, by omega⟩⟩⟩⟩⟩
    simp only [List.mem_cons, List.not_mem_nil, or_false] at hd
    exact hd
  rintro _ B3 ⟨d, rfl, hd, hB3⟩
  have pd : plainD d = true := by rcases hd with rfl | rfl | rfl | rfl <;> rfl
  have okW : pyOk (.tup [.str "place", d]) = true := by rcases hd with rfl | rfl | rfl | rfl <;> rfl
  have shW : SeqAt.shaped (py (.tup [.str "place", d])) = true := by rcases hd with rfl | rfl | rfl | rfl <;> decide +kernel
  clear hd
  refine ws_cut (fun ρ' B' => ∃ d2 : D, ρ' = [some penF, some (plT T (1, 0, 0)), some (.int n), some d, some d2] ∧ (d2 = .non ∨ d2 = .int (-1) ∨ d2 = .bl true ∨ d2 = .str "4") ∧ B' ≤ B + 30) ?_ ?_
  · refine ws_set <| we_call <| wa_cons <| we_var rfl <| wa_cons <| we_lst <| wa_cons <| we_non <| wa_cons <| we_neg <| we_int ⟨_, rfl, wa_cons <| we_bl <| wa_cons <| we_str <| wa_nil ⟨Nat.le_of_ble_eq_true rfl, wa_nil ⟨_, rfl, .inl ⟨_, rfl, by show 0 < 4; decide, by show 4 ≤ 1000000; decide, by omega, fun d2 hd => ⟨d2, rfl, ?_, by omega⟩⟩⟩⟩⟩
    simp only [List.mem_cons, List.not_mem_nil, or_false] at hd
    exact hd
  rintro _ B4 ⟨d2, rfl, hd2, hB4⟩
  have pd2 : plainD d2 = true := by rcases hd2 with rfl | rfl | rfl | rfl <;> rfl
  have bd2 : badW d2 := by
    rcases hd2 with rfl | rfl | rfl | rfl
    · exact .inl rfl
    · exact .inr ⟨_, rfl, by decide⟩
    · exact .inl rfl
    · exact .inl rfl
  have okW2 : pyOk (.tup [.str "number", d2]) = true := by rcases hd2 with rfl | rfl | rfl | rfl <;> rfl
  have shW2 : SeqAt.shaped (py (.tup [.str "number", d2])) = true := by rcases hd2 with rfl | rfl | rfl | rfl <;> decide +kernel
  clear hd2
  have okW3 : pyOk (.tup [.str "far", .int n]) = true := rfl
  have dpW : (py (.tup [.str "far", .int n])).depth ≤ 4 := by
    show (PyData.tuple [.str _, .int _]).depth ≤ 4
    simp [PyData.depth, PyData.depthAll]
  have shW3 : SeqAt.shaped (py (.tup [.str "far", .int n])) = true := shaped_of (by show (PyData.canLay0 (.str "far") && (true && true)) = true; decide +kernel) (decide_eq_true (Nat.le_trans dpW (by decide)))
  refine ws_cut (fun ρ' B' => ρ' = [some penF, some (plT T (1, 0, 0)), some (.int n), some d, some d2] ∧ B4 = B') ?_ ?_
  · refine ws_if <| wt_test <| we_op <| we_lamarg (i := 0) (tt_ref T) rfl rfl hmT huT fun Ech => we_callE <| wa_cons <| we_var rfl <| wa_cons <| we_var rfl <| wa_nil ⟨_, _, rfl, .inr <| .inl ⟨pd, ?_⟩⟩
    exact .inl ⟨rfl, _, rfl, we_tup <| wa_cons <| we_str <| wa_cons <| we_var rfl <| wa_nil ⟨Nat.le_of_ble_eq_true rfl, ro_neD okW okW shW shW (by rw [eqv_self]; exact ⟨_, rfl, (fun h => nomatch h), fun _ => ws_next ⟨rfl, rfl⟩⟩)⟩⟩
  rintro _ _ ⟨rfl, rfl⟩
  refine ws_cut (fun ρ' B' => ρ' = [some penF, some (plT T (1, 0, 0)), some (.int n), some d, some d2] ∧ B4 = B') ?_ ?_
  · refine ws_if <| wt_test <| we_op <| we_lamarg (i := 0) (tt_ref T) rfl rfl hmT huT fun Ech => we_callE <| wa_cons <| we_var rfl <| wa_cons <| we_var rfl <| wa_nil ⟨_, _, rfl, .inr <| .inr <| .inl ⟨(1, 0, 0), rfl, pd2, bd2, ?_⟩⟩
    exact .inr <| .inl ⟨rfl, _, rfl, we_tup <| wa_cons <| we_str <| wa_cons <| we_var rfl <| wa_nil ⟨Nat.le_of_ble_eq_true rfl, ro_neD okW2 okW2 shW2 shW2 (by rw [eqv_self]; exact ⟨_, rfl, (fun h => nomatch h), fun _ => ws_next ⟨rfl, rfl⟩⟩)⟩⟩
  rintro _ _ ⟨rfl, rfl⟩
  refine ws_cut (fun ρ' B' => ρ' = [some penF, some (plT T (1, 0, 0)), some (.int n), some d, some d2] ∧ B4 = B') ?_ ?_
  · refine ws_if <| wt_test <| we_op <| we_lamarg (i := 0) (tt_ref T) rfl rfl hmT huT fun Ech => we_callE <| wa_cons <| we_var rfl <| wa_cons <| we_var rfl <| wa_nil ⟨_, _, rfl, .inr <| .inr <| .inr ⟨n, (1, 0, 0), rfl, rfl, hn, ?_⟩⟩
    exact .inr <| .inr ⟨rfl, _, rfl, we_tup <| wa_cons <| we_str <| wa_cons <| we_var rfl <| wa_nil ⟨Nat.le_of_ble_eq_true rfl, ro_neD okW3 okW3 shW3 shW3 (by rw [eqv_self]; exact ⟨_, rfl, (fun h => nomatch h), fun _ => ws_next ⟨rfl, rfl⟩⟩)⟩⟩
  rintro _ _ ⟨rfl, rfl⟩
  refine ws_cut (fun ρ' B' => ρ' = [some penF, some (plT T (1, 0, 0)), some (.int n), some d, some d2] ∧ B4 = B') ?_ ?_
  · refine ws_if <| wt_test <| we_op <| we_lamarg (i := 0) (tt_ref T) rfl rfl hmT huT fun Ech => we_callE <| wa_cons <| we_var rfl <| wa_nil ⟨_, rfl, .inr <| .inl ⟨pd, ?_⟩⟩
    exact .inl ⟨rfl, _, rfl, we_tup <| wa_cons <| we_str <| wa_cons <| we_var rfl <| wa_nil ⟨Nat.le_of_ble_eq_true rfl, ro_neD okW okW shW shW (by rw [eqv_self]; exact ⟨_, rfl, (fun h => nomatch h), fun _ => ws_next ⟨rfl, rfl⟩⟩)⟩⟩
  rintro _ _ ⟨rfl, rfl⟩
  have sn : stF (n, 0, 0) = n := by
    have h1 := (Wks_st (n := n.toNat) (p := ((n.toNat : Int), 0, 0)) (cw_pos.mp (by rw [cw_east]; decide))).1
    rw [Int.toNat_of_nonneg (by omega)] at h1
    have h2 := (stF_sq (p := (n, 0, 0)) (n := stF (n, 0, 0)) (Int.le_refl _)).1
    have h2 : ab n + ab 0 ≤ stF (n, 0, 0) := h2
    unfold ab at h2
    omega
  refine ws_ret <| we_op <| we_lamarg (i := 0) (tt_ref T) rfl rfl hmT huT fun Ech => we_callE <| wa_cons <| we_place T <| wa_cons <| we_var rfl <| wa_cons <| we_int <| wa_cons <| we_int <| wa_nil ⟨n, 0, 0, rfl, wa_nil ⟨_, rfl, .inr <| .inr ⟨(n, 0, 0), rfl, ⟨bn.mono (by decide), bd0, bd0⟩, by rw [sn]; exact hn, ?_⟩⟩⟩
  rw [sn]
  refine .inr <| .inr ⟨rfl, _, rfl, we_tup <| wa_cons <| we_str <| wa_cons <| we_var rfl <| wa_nil ⟨Nat.le_of_ble_eq_true rfl, ro_eqD okW3 okW3 shW3 shW3 ?_⟩⟩
  rw [eqv_self]
  exact hk _
end
end AW

set_option linter.all false
set_option maxRecDepth 100000
set_option maxHeartbeats 8000000
namespace AW
open PySem PySem.Spec PyProof.Rows L2 Fewest
variable [Tbs]
section
variable {P : Program} {w : World} {K : PySem.W.Frag} {mg : Str → Option Value} {base : Heap}
theorem st_Wks : ∀ {n : Nat} {p : T3}, stF p = n → p ∈ Wks n
  | 0, p, h => by
    have e : p = (0, 0, 0) := stF_home.mp (by rw [h]; rfl)
    rw [e]; exact List.mem_singleton.mpr rfl
  | n + 1, p, h => by
    obtain ⟨q, c, hc, e, hq⟩ := stF_near (p := p) (by rw [h]; push_cast; omega)
    refine List.mem_flatMap.mpr ⟨q, st_Wks (n := n) (by rw [hq, h]; push_cast; omega), nb_mv.mpr ⟨c, hc, e.symm⟩⟩
theorem SP_len6 {n : Int} (h0 : 0 ≤ n) (h6 : n ≤ 6) : (SP n).length ≤ 1000000 := by
  have lSy : ∀ x : Int, (SPy n x).length ≤ 25 * 801 := fun x => by
    have h1 : (SPy n x).length ≤ (rgI (ab x - n) (n - ab x + 1)).length * 801 := flat_len fun y _ => by rw [List.length_map]; exact newF_len h0 (by omega)
    have h2 : (rgI (ab x - n) (n - ab x + 1)).length ≤ 25 := by rw [rgI_len]; unfold ab; omega
    exact Nat.le_trans h1 (Nat.mul_le_mul_right _ h2)
  have h1 : (SP n).length ≤ (rgI (-n) (n + 1)).length * (25 * 801) := flat_len fun x _ => lSy x
  have h2 : (rgI (-n) (n + 1)).length ≤ 25 := by rw [rgI_len]; omega
  exact Nat.le_trans h1 (Nat.le_trans (Nat.mul_le_mul_right _ h2) (by decide))
def pr_law (T : Tx K mg) : Pr := fun ds B k e => ∃ ns : List Int, ds = [.scr ns] ∧ ns.length ≤ 63 ∧ B = 0 ∧ ∀ B', k (.bl true) B'
theorem okD_law (T : Tx K mg) (TB_l_wrong_right : LamX.TabB base mg T.cc_l_wrong_right T.pt_l_wrong_right) (hT : Tbs.T = tabs1 T) (hN : ((tabs1 T).map Prod.fst).Nodup) : FnOk P w K mg base (L2.CX P w) 14 T.a_law T.d_law P_law (spD K (pr_law T)) := by
  refine T.F_law.okX sc_law (spD_len fun ds B k e h => by obtain ⟨ns, rfl, hl, rfl, hk⟩ := h; rfl) (fun cdv A outer s H vs Q E hr h => ?_)
  have G_Place_init : FnOk P w K mg base (L2.CX P w) _ _ _ _ _ := okD_Place_init T
  have G_l_counted : FnOk P w K mg base (L2.CX P w) 3 _ _ _ _ := okD_l_counted T
  have G_l_draw : FnOk P w K mg base (L2.CX P w) 1 _ _ _ _ := okD_l_draw T
  have G_l_far_right : FnOk P w K mg base (L2.CX P w) 10 _ _ _ _ := okD_l_far_right T
  have G_l_pen : FnOk P w K mg base (L2.CX P w) 1 _ _ _ _ := okD_l_pen T
  have G_l_pick : FnOk P w K mg base (L2.CX P w) 2 _ _ _ _ := okD_l_pick T
  have G_l_place : FnOk P w K mg base (L2.CX P w) 6 _ _ _ _ := okD_l_place T
  have G_l_spot : FnOk P w K mg base (L2.CX P w) 1 _ _ _ _ := okD_l_spot T
  have G_l_wrong_right : FnOk P w K mg base (L2.CX P w) 13 _ _ _ _ := okD_l_wrong_right T (TB := TB_l_wrong_right) (hT := hT) (hN := hN)
  have G_least_walks : FnOk P w K mg base (L2.CX P w) 9 _ _ _ _ := okD_least_walks T
  have G_sphere_places : FnOk P w K mg base (L2.CX P w) 8 _ _ _ _ := okD_sphere_places T
  have G_steps : FnOk P w K mg base (L2.CX P w) 4 _ _ _ _ := okD_steps T
  have G_walks_to : FnOk P w K mg base (L2.CX P w) 8 _ _ _ _ := okD_walks_to T
  have hu := hu_of hr
  obtain ⟨G, ds, B, k, e, hs, hR, ⟨ns, rfl, hl, rfl, hk⟩, hK, hX⟩ := h
  refine ⟨_, (pss_cons (ps_set (i := 1) sc_law.nd rfl (.inl rfl) (pe_call G_l_pen (hr.mono (by decide)) (by rfl) T.g_l_pen T.F_l_pen.kp T.b_l_pen .nil passL (pa_cons (pv 0) pa_nil)))
 (pss_cons (ps_set (i := 2) sc_law.nd rfl (.inl rfl) (pe_call G_l_draw (hr.mono (by decide)) (by rfl) T.g_l_draw T.F_l_draw.kp T.b_l_draw .nil passL (pa_cons (pv 1) (pa_cons pe_int pa_nil))))
 (pss_cons (ps_set (i := 3) sc_law.nd rfl (.inl rfl) (pe_call G_l_counted (hr.mono (by decide)) (by rfl) T.g_l_counted T.F_l_counted.kp T.b_l_counted .nil passL (pa_cons (pv 2) pa_nil)))
 (pss_cons (ps_lock (ps_for (passes_of rfl) rfl (pi_keys (pv 3)) (pg_name (i := 4) sc_law.nd rfl (.inl rfl))
 (pss_one (ps_if (PW.pt (pw_or (pt_cmpR op_lt (pe_callB call_len_dTR (by rfl) T.n_len (by decide +kernel) (pa_cons (pv 3) pa_nil)) pe_int (nomark _)) (pw_or1 (pt_cmpR op_eq (pe_call G_l_draw (hr.mono (by decide)) (by rfl) T.g_l_draw T.F_l_draw.kp T.b_l_draw .nil passL (pa_cons (pv 1) (pa_cons pe_int pa_nil))) pe_int (nomark _)))))
 (pss_one (ps_if (pt_cmpR op_ne (pe_call G_walks_to (hr.mono (by decide)) (by rfl) T.g_walks_to T.F_walks_to.kp T.b_walks_to .nil passL (pa_cons (pe_call G_l_place (hr.mono (by decide)) (by rfl) T.g_l_place T.F_l_place.kp T.b_l_place .nil passL (pa_cons (pv 4) pa_nil)) (pa_cons (pv 2) pa_nil))) (pe_dget hu (pv 3) (pv 4) (fun _ _ => rfl)) (nomark _))
 (pss_one (ps_ret pe_bl))
 pss_nil))
 pss_nil))))
 (pss_cons (ps_set (i := 5) sc_law.nd rfl (.inl rfl) (pe_call G_l_pick (hr.mono (by decide)) (by rfl) T.g_l_pick T.F_l_pick.kp T.b_l_pick .nil passL (pa_cons (pv 1) (pa_cons (pe_call G_sphere_places (hr.mono (by decide)) (by rfl) T.g_sphere_places T.F_sphere_places.kp T.b_sphere_places .nil passL (pa_cons (pv 2) pa_nil)) pa_nil))))
 (pss_cons (ps_if (PW.pt (pw_or (pt_cmpR op_ne (pe_call G_least_walks (hr.mono (by decide)) (by rfl) T.g_least_walks T.F_least_walks.kp T.b_least_walks .nil passL (pa_cons (pv 5) pa_nil)) (pe_dget hu (pv 3) (pe_call G_l_spot (hr.mono (by decide)) (by rfl) T.g_l_spot T.F_l_spot.kp T.b_l_spot .nil passL (pa_cons (pv 5) pa_nil)) (fun _ _ => rfl)) (nomark _)) (pw_or1 (pt_cmpR op_ne (pe_call G_walks_to (hr.mono (by decide)) (by rfl) T.g_walks_to T.F_walks_to.kp T.b_walks_to .nil passL (pa_cons (pv 5) (pa_cons (pe_call G_steps (hr.mono (by decide)) (by rfl) T.g_steps T.F_steps.kp T.b_steps .nil passL (pa_cons (pv 5) pa_nil)) pa_nil))) (pe_call G_least_walks (hr.mono (by decide)) (by rfl) T.g_least_walks T.F_least_walks.kp T.b_least_walks .nil passL (pa_cons (pv 5) pa_nil)) (nomark _)))))
 (pss_one (ps_ret pe_bl))
 pss_nil)
 (pss_cons (ps_if (PW.pt (pw_or (pt_cmpR op_ne (pe_call G_walks_to (hr.mono (by decide)) (by rfl) T.g_walks_to T.F_walks_to.kp T.b_walks_to .nil passL (pa_cons (pe_make T.M_Place G_Place_init (hr.mono (by decide)) (by rfl) T.g_C_Place T.b_Place_init .nil passL (pa_cons (pe_op op_pow pe_int pe_int) (pa_cons pe_int (pa_cons pe_int pa_nil)))) (pa_cons pe_int pa_nil))) pe_int (nomark _)) (pw_or1 (pt_cmpR op_ne (pe_call G_walks_to (hr.mono (by decide)) (by rfl) T.g_walks_to T.F_walks_to.kp T.b_walks_to .nil passL (pa_cons (pe_make T.M_Place G_Place_init (hr.mono (by decide)) (by rfl) T.g_C_Place T.b_Place_init .nil passL (pa_cons pe_int (pa_cons pe_int (pa_cons pe_int pa_nil)))) (pa_cons pe_int pa_nil))) pe_int (nomark _)))))
 (pss_one (ps_ret pe_bl))
 pss_nil)
 (pss_cons (ps_if (pt_cmpR op_ne (pe_call G_walks_to (hr.mono (by decide)) (by rfl) T.g_walks_to T.F_walks_to.kp T.b_walks_to .nil passL (pa_cons (pe_make T.M_Place G_Place_init (hr.mono (by decide)) (by rfl) T.g_C_Place T.b_Place_init .nil passL (pa_cons pe_int (pa_cons pe_int (pa_cons pe_int pa_nil)))) (pa_cons pe_int pa_nil))) pe_int (nomark _))
 (pss_one (ps_ret pe_bl))
 pss_nil)
 (pss_one (ps_ret (pe_and (pe_call G_l_far_right (hr.mono (by decide)) (by rfl) T.g_l_far_right T.F_l_far_right.kp T.b_l_far_right .nil passL (pa_cons (pv 1) pa_nil)) (pe_one (pe_call G_l_wrong_right (hr.mono (by decide)) (by rfl) T.g_l_wrong_right T.F_l_wrong_right.kp T.b_l_wrong_right .nil passL (pa_cons (pv 1) pa_nil)))))))))))))), run_body (ρ := [some (.scr ns), none, none, none, none, none]) hs hR hK hX rfl ?_⟩
  have z3 : 3 ≤ sizeLine := by decide
  refine ws_seq <| ws_set <| we_call <| wa_cons <| we_var rfl <| wa_nil ⟨ns, rfl, hl, Int.le_refl _, ?_⟩
  refine ws_cut (fun ρ' B' => (∃ n : Nat, ρ' = [some (.scr ns), some penF, some (.int (n : Int)), none, none, none] ∧ n ≤ 6) ∧ B' = 1) ?_ ?_
  · refine ws_set <| we_call <| wa_cons <| we_var rfl <| wa_cons <| we_int <| wa_nil ⟨7, rfl, by decide, by decide, by omega, fun a a0 a1 => ?_⟩
    obtain ⟨n, rfl⟩ := Int.eq_ofNat_of_zero_le a0
    exact ⟨⟨n, rfl, by omega⟩, rfl⟩
  rintro _ _ ⟨⟨n, rfl, n6⟩, rfl⟩
  refine ws_seq <| ws_set <| we_call <| wa_cons <| we_var rfl <| wa_nil ⟨n, rfl, n6, fun Q hC hQl => ?_⟩
  have pw : 4 ^ n ≤ 4096 := Nat.le_trans (Nat.pow_le_pow_right (by decide) n6) (by decide)
  refine ws_cut (fun ρ' B' => (∃ o4, ρ' = [some (.scr ns), some penF, some (.int (n : Int)), some (ctD false n Q), o4, none]) ∧ B' ≤ 1 + 4096) ?_ ?_
  · refine ws_for_dt (i := 3) rfl (fun u => ?_) fun u => ⟨fun i ρ' B' => (∃ (o4 : Option D), ρ' = [some (.scr ns), some penF, some (.int (n : Int)), some (.at_ u (ctD true n Q)), o4, none] ∧ lkOkE false [o4] = true) ∧ B' ≤ 1 + (i : Int), ⟨⟨none, rfl, rfl⟩, by omega⟩, fun i ρ' B' hI => ?_, fun i c ρ' B' hc hI => ?_, fun ρ' B' hI => ?_⟩
    · show (true && (true && (true && (lkOk false (ctD true n Q) && true)))) = true
      rw [lk_ct rfl]; rfl
    · obtain ⟨⟨o4, rfl, _⟩, _⟩ := hI
      rfl
    · obtain ⟨⟨o4, rfl, _⟩, hB'⟩ := hI
      rw [TF_kss, List.getElem?_map] at hc
      obtain ⟨s, hs, rfl⟩ := Option.map_eq_some_iff.mp hc
      have hsQ := List.mem_of_getElem? hs
      have hi : i < Q.length := (List.getElem?_eq_some_iff.mp hs).1
      have bs := hC.bd (by omega) hsQ
      have b3 : Bd 3000 s.1 ∧ Bd 3000 s.2.1 ∧ Bd 3000 s.2.2 := ⟨bs.1.mono (by decide), bs.2.1.mono (by decide), bs.2.2.mono (by decide)⟩
      refine wg_name ?_
      refine ws_if <| wt_or <| wt_test <| we_op <| we_lenDT <| wa_cons <| we_varA rfl <| wa_nil ⟨true, _, _, rfl, we_int <| ro_b0 ⟨_, rfl, fun _ => ⟨fun _ => ?_, fun z => nomatch z⟩, fun _ => ?_⟩⟩
      · exact ws_if <| wt_test <| we_op <| we_call <| wa_cons <| we_call <| wa_cons <| we_var rfl <| wa_nil ⟨s, rfl, wa_cons <| we_var rfl <| wa_nil ⟨_, _, rfl, .inl ⟨n, s, rfl, rfl, by omega, b3, we_dgetT <| we_varA rfl ⟨true, _, rfl, we_var rfl ⟨k3 s, .int (cwi n s), rfl, by rw [TF_get k3_inj', if_pos hsQ], ro_neI ⟨_, rfl, fun h => (ne_of_dec h rfl).elim, fun _ => ws_next ⟨⟨some (kt3 s), rfl, rfl⟩, by push_cast; omega⟩⟩⟩⟩⟩⟩⟩
      refine wt_test <| we_op <| we_call <| wa_cons <| we_var rfl <| wa_cons <| we_int <| wa_nil ⟨6, rfl, by decide, by decide, by omega, fun b b0 b1 => we_int <| ro_eqI ⟨_, rfl, fun _ => ?_, fun _ => ws_next ⟨⟨some (kt3 s), rfl, rfl⟩, by push_cast; omega⟩⟩⟩
      exact ws_if <| wt_test <| we_op <| we_call <| wa_cons <| we_call <| wa_cons <| we_var rfl <| wa_nil ⟨s, rfl, wa_cons <| we_var rfl <| wa_nil ⟨_, _, rfl, .inl ⟨n, s, rfl, rfl, by omega, b3, we_dgetT <| we_varA rfl ⟨true, _, rfl, we_var rfl ⟨k3 s, .int (cwi n s), rfl, by rw [TF_get k3_inj', if_pos hsQ], ro_neI ⟨_, rfl, fun h => (ne_of_dec h rfl).elim, fun _ => ws_next ⟨⟨some (kt3 s), rfl, rfl⟩, by push_cast; omega⟩⟩⟩⟩⟩⟩⟩
    · obtain ⟨⟨o4, rfl, hlk⟩, hB'⟩ := hI
      rw [TF_kss, List.length_map] at hB'
      refine ⟨?_, ⟨o4, ?_⟩, by omega⟩
      · show (true && (true && (true && (lkOk true (ctD true n Q) && lkOkE true (o4 :: [none]))))) = true
        rw [lk_ct rfl, lkE_cons (lkOkE_up hlk) rfl]; rfl
      · rfl
  rintro _ B2 ⟨⟨o4, rfl⟩, hB2⟩
  have lP0 : 0 < ((SP (n : Int)).map (plT T)).length := by
    rw [List.length_map]
    refine List.length_pos_of_mem (SP_mem.mpr (show stF ((n : Int), 0, 0) = n from ?_))
    have h1 := (Wks_st (n := n) (p := ((n : Int), 0, 0)) (cw_pos.mp (by rw [cw_east]; decide))).1
    have h2 := (stF_sq (p := ((n : Int), 0, 0)) (n := stF ((n : Int), 0, 0)) (Int.le_refl _)).1
    have h2 : ab (n : Int) + ab 0 ≤ stF ((n : Int), 0, 0) := h2
    unfold ab at h2
    omega
  refine ws_cut (fun ρ' B' => (∃ p : T3, ρ' = [some (.scr ns), some penF, some (.int (n : Int)), some (ctD false n Q), o4, some (plT T p)] ∧ stF p = n) ∧ B' ≤ 5000) ?_ ?_
  · refine ws_set <| we_call <| wa_cons <| we_var rfl <| wa_cons <| we_callO <| wa_cons <| we_var rfl <| wa_nil ⟨_, rfl, .inl ⟨(n : Int), rfl, by omega, by omega, wa_nil ⟨_, rfl, .inl ⟨_, rfl, lP0, by rw [List.length_map]; exact SP_len6 (by omega) (by omega), by omega, fun d hd => ?_⟩⟩⟩⟩
    obtain ⟨p, hp, rfl⟩ := List.mem_map.mp hd
    exact ⟨⟨p, rfl, SP_mem.mp hp⟩, by omega⟩
  rintro _ B3 ⟨⟨p, rfl, hp⟩, hB3⟩
  have hbp : Bd 100 p.1 ∧ Bd 100 p.2.1 ∧ Bd 100 p.2.2 := by
    obtain ⟨g1, g2⟩ := stF_sq (p := p) (n := 6) (by omega)
    refine ⟨bdS (c := 20) ?_, bdS (c := 20) ?_, bdS (c := 400) ?_⟩
    · unfold ab at g1; omega
    · unfold ab at g1; omega
    · unfold ab at g2; omega
  have b3 : Bd 3000 p.1 ∧ Bd 3000 p.2.1 ∧ Bd 3000 p.2.2 := ⟨hbp.1.mono (by decide), hbp.2.1.mono (by decide), hbp.2.2.mono (by decide)⟩
  have hpQ : p ∈ Q := (hC.me p).mpr (st_Wks hp)
  have hpn : (stF p).toNat = n := by omega
  refine ws_seq <| ws_if <| wt_or <| wt_test <| we_op <| we_call <| wa_cons <| we_var rfl <| wa_nil ⟨_, rfl, .inl ⟨p, rfl, by omega, b3, we_dgetT <| we_var rfl ⟨false, _, rfl, we_call <| wa_cons <| we_var rfl <| wa_nil ⟨p, rfl, k3 p, .int (cwi n p), rfl, by rw [TF_get k3_inj', if_pos hpQ], ?_⟩⟩⟩⟩
  rw [hpn]
  refine ro_neI ⟨_, rfl, fun h => (ne_of_dec h rfl).elim, fun _ => ?_⟩
  refine wt_test <| we_op <| we_call <| wa_cons <| we_var rfl <| wa_cons <| we_call <| wa_cons <| we_var rfl <| wa_nil ⟨_, rfl, .inl ⟨p, rfl, b3.1, b3.2.1, b3.2.2, wa_nil ⟨_, _, rfl, .inl ⟨n, p, rfl, by rw [hp], by omega, b3, we_call <| wa_cons <| we_var rfl <| wa_nil ⟨_, rfl, .inl ⟨p, rfl, by omega, b3, ?_⟩⟩⟩⟩⟩⟩
  rw [hpn]
  refine ro_neI ⟨_, rfl, fun h => (ne_of_dec h rfl).elim, fun _ => ws_next ?_⟩
  have b10 : Bd 3000 ((10 : Int) ^ (30 : Int).toNat) := Nat.lt_of_lt_of_le (show ((10 : Int) ^ (30 : Int).toNat).natAbs < 2 ^ 100 by decide +kernel) (Nat.pow_le_pow_right (by decide) (by decide))
  have c10 : cw 20 ((10 : Int) ^ (30 : Int).toNat, 0, 0) = 0 := by
    refine Classical.byContradiction fun z => ?_
    have := Wks_x (cw_pos.mp z)
    have this : (10 : Int) ^ (30 : Int).toNat ≤ ((20 : Nat) : Int) := this
    exact absurd this (by decide +kernel)
  have cpw : CPow 10 30 := by unfold CPow; decide +kernel
  have c0 : cw 0 (0, 0, 0) = 1 := by show sm _ [((0, 0, 0) : T3)] = 1; rw [sm_cons, sm_nil]; rfl
  refine ws_seq <| ws_if <| wt_or <| wt_test <| we_op <| we_call <| wa_cons <| we_place T <| wa_cons <| we_op <| we_int <| we_int <| ro_i cpw <| wa_cons <| we_int <| wa_cons <| we_int <| wa_nil ⟨_, _, _, rfl, wa_cons <| we_int <| wa_nil ⟨_, _, rfl, .inl ⟨20, ((10 : Int) ^ (30 : Int).toNat, 0, 0), rfl, rfl, by decide, ⟨b10, bd0, bd0⟩, ?_⟩⟩⟩
  rw [c10]
  refine we_int <| ro_neI ⟨_, rfl, (fun h => nomatch h), fun _ => ?_⟩
  refine wt_test <| we_op <| we_call <| wa_cons <| we_place T <| wa_cons <| we_int <| wa_cons <| we_int <| wa_cons <| we_int <| wa_nil ⟨_, _, _, rfl, wa_cons <| we_int <| wa_nil ⟨_, _, rfl, .inl ⟨0, (0, 0, 0), rfl, rfl, by decide, ⟨bd0, bd0, bd0⟩, ?_⟩⟩⟩
  rw [c0]
  refine we_int <| ro_neI ⟨_, rfl, (fun h => nomatch h), fun _ => ws_next ?_⟩
  refine ws_seq <| ws_if <| wt_test <| we_op <| we_call <| wa_cons <| we_place T <| wa_cons <| we_int <| wa_cons <| we_int <| wa_cons <| we_int <| wa_nil ⟨_, _, _, rfl, wa_cons <| we_int <| wa_nil ⟨_, _, rfl, .inl ⟨20, (((20 : Nat) : Int), 0, 0), rfl, rfl, by decide, ⟨Nat.lt_of_lt_of_le (by decide : (20 : Nat) < 2 ^ 5) (Nat.pow_le_pow_right (by decide) (by decide)), bd0, bd0⟩, ?_⟩⟩⟩
  rw [cw_east]
  refine we_int <| ro_neI ⟨_, rfl, (fun h => nomatch h), fun _ => ws_next ?_⟩
  exact ws_ret <| we_and <| we_call <| wa_cons <| we_var rfl <| wa_nil ⟨rfl, by omega, fun B' hB' => ⟨_, rfl, fun _ => we_call <| wa_cons <| we_var rfl <| wa_nil ⟨rfl, by omega, hk⟩, fun h => nomatch h⟩⟩
end
end AW

namespace AW
open PySem PySem.Spec PyProof.Rows L2
/-- the law, called as the statement calls it -/
theorem law_at {l : PySem.W.OpenLaw} {w : World} {K : PySem.W.Frag} {mg : Str → Option Value} {fa : Addr} {h : Heap} (T : Tx K mg) (ea : T.a_law = fa) (KX : K.In h) (ht_l_wrong_right : h.get? T.pt_l_wrong_right = some (PySem.W.tabObj #[])) (hN : ((tabs1 T).map Prod.fst).Nodup) :
    LamX.LawAtS l w K (L2.CX l.prog w) 14 63 "_law_script" mg fa h := by
  subst ea
  letI : Tbs := ⟨tabs1 T⟩
  refine ⟨T.d_law, [(T.cc_l_wrong_right, T.pt_l_wrong_right)], spLaw K, fun p hp => ?_, fun p hp => ?_, fun p hp => ?_, fun s u => ?_, fun H a ns hl _ hH hS => ?_, fun base KB hm hb => ?_⟩
  · simp only [List.mem_cons, List.not_mem_nil, or_false] at hp
    rcases hp with rfl
    · exact ht_l_wrong_right
  · simp only [List.mem_cons, List.not_mem_nil, or_false] at hp
    rcases hp with rfl
    · exact T.n_l_wrong_right
  · simp only [List.mem_cons, List.not_mem_nil, or_false] at hp
    rcases hp with rfl
    · exact PySem.W.codeHd_of_K KX T.h_l_wrong_right
  · obtain ⟨oc, od, kV, doc, pm, an, cdv, ct, osl, e, lk, hcd⟩ := T.F_law.ex
    rw [e]
    exact BindsTo.of_eq rfl
  · refine ⟨a, ns, rfl, hS, hl, fun q hq => ?_, fun H' => rfl⟩
    have hq2 : q ∈ tabs1 T := hq
    unfold tabs1 at hq2
    simp only [List.mem_cons, List.not_mem_nil, or_false] at hq2
    rcases hq2 with rfl
    · exact LamX.TabS.nil (hH (T.cc_l_wrong_right, T.pt_l_wrong_right) (by simp))
  · exact ((okD_law T (TB_l_wrong_right := hb (T.cc_l_wrong_right, T.pt_l_wrong_right) (by simp)) (hT := rfl) (hN := hN)).mono (by decide)).imp (spLaw_imp fun ns k hl hk => ⟨ns, rfl, hl, rfl, hk⟩)
end AW
open PySem PySem.W PyProof.Rows in
set_option maxRecDepth 100000 in
set_option maxHeartbeats 0 in
theorem PySem.Challenge.cw_areawalks_k20_walks_counted_holds : PySem.Challenge.rw_areawalks_k20_walks_counted.Holds := by
  w_on; o_law; k_head; (case hw => w_witness2)
  k_fill
  refine LamX.walk_ofTs (l := PySem.Challenge.rw_areawalks_k20_walks_counted) (n := 63) (k := 14) (x := "_law_script") (CX := fun w => L2.CX (PySem.Challenge.rw_areawalks_k20_walks_counted).prog w) rfl (by decide) rfl ⟨rfl, by decide, by decide⟩ (fun w h Y => PySem.W.km_in_of Y) ?F ?G
  case G =>
    intro w H s e s' h
    obtain ⟨_, _, _, _, _, _, _, _, _, _, _, _, z⟩ := h
    exact z.elim
  case F =>
    intro w mg fa h Y KX G hmg
    have ht := PySem.W.km_tabs_of Y
    refine' AW.tx_mk (pt_l_wrong_right := 413) KX G hmg ?g_is_integer ?l_is_integer ?c_is_integer ?k_is_integer ?g_check_integer ?l_check_integer ?c_check_integer ?k_check_integer ?g_check_from ?l_check_from ?c_check_from ?k_check_from ?g_check_whole ?l_check_whole ?c_check_whole ?k_check_whole ?g_fewest_steps ?l_fewest_steps ?c_fewest_steps ?k_fewest_steps ?g_quotient_up ?l_quotient_up ?c_quotient_up ?k_quotient_up ?g_half_outline ?l_half_outline ?c_half_outline ?k_half_outline ?g_best_sides ?l_best_sides ?c_best_sides ?k_best_sides ?g_spare_steps ?l_spare_steps ?c_spare_steps ?k_spare_steps ?g_areas_of_walks ?l_areas_of_walks ?c_areas_of_walks ?k_areas_of_walks ?g_walks_by_halves ?l_walks_by_halves ?c_walks_by_halves ?k_walks_by_halves ?g_step_further ?l_step_further ?c_step_further ?k_step_further ?g_joined_walks ?l_joined_walks ?c_joined_walks ?k_joined_walks ?g_check_place ?l_check_place ?c_check_place ?k_check_place ?g_sphere_places ?l_sphere_places ?c_sphere_places ?k_sphere_places ?g_walks_to ?l_walks_to ?c_walks_to ?k_walks_to ?g_least_walks ?l_least_walks ?c_least_walks ?k_least_walks ?g_check_near ?l_check_near ?c_check_near ?k_check_near ?g_new_areas ?l_new_areas ?c_new_areas ?k_new_areas ?g_steps ?l_steps ?c_steps ?k_steps ?g_l_pen ?l_l_pen ?c_l_pen ?k_l_pen ?g_l_draw ?l_l_draw ?c_l_draw ?k_l_draw ?g_l_pick ?l_l_pick ?c_l_pick ?k_l_pick ?g_l_great ?l_l_great ?c_l_great ?k_l_great ?g_l_gone ?l_l_gone ?c_l_gone ?k_l_gone ?g_l_spot ?l_l_spot ?c_l_spot ?k_l_spot ?g_l_place ?l_l_place ?c_l_place ?k_l_place ?g_l_times ?l_l_times ?c_l_times ?k_l_times ?g_l_undone ?l_l_undone ?c_l_undone ?k_l_undone ?g_l_counted ?l_l_counted ?c_l_counted ?k_l_counted ?g_l_refused ?l_l_refused ?c_l_refused ?k_l_refused ?g_l_far_right ?l_l_far_right ?c_l_far_right ?k_l_far_right ?g_l_wrong_right ?l_l_wrong_right ?c_l_wrong_right ?h_l_wrong_right ?n_l_wrong_right ?k_l_wrong_right ?g_law ?l_law ?c_law ?k_law ?g_C_BadNumber ?m_BadNumber_init ?i_BadNumber_init ?l_BadNumber_init ?c_BadNumber_init ?k_BadNumber_init ?sa_BadNumber ?ex_BadNumber ?ty_BadNumber ?kc_BadNumber ?ga_BadNumber ?gg_BadNumber ?hd_BadNumber ?x_BadNumber ?na_BadNumber_value ?g_C_BadPlace ?m_BadPlace_init ?i_BadPlace_init ?l_BadPlace_init ?c_BadPlace_init ?k_BadPlace_init ?sa_BadPlace ?ex_BadPlace ?ty_BadPlace ?kc_BadPlace ?ga_BadPlace ?gg_BadPlace ?hd_BadPlace ?x_BadPlace ?na_BadPlace_value ?g_C_TooFar ?m_TooFar_init ?i_TooFar_init ?l_TooFar_init ?c_TooFar_init ?k_TooFar_init ?sa_TooFar ?ex_TooFar ?ty_TooFar ?kc_TooFar ?ga_TooFar ?gg_TooFar ?hd_TooFar ?x_TooFar ?na_TooFar_number ?g_C_Place ?pg_Place ?hd_Place ?po_Place ?sa_Place ?ca_Place ?cm_Place ?na_Place_x ?na_Place_y ?na_Place_area ?m_Place_init ?i_Place_init ?l_Place_init ?c_Place_init ?k_Place_init ?mk_Place ?kc_Place ?m_Place_invert ?i_Place_invert ?l_Place_invert ?c_Place_invert ?k_Place_invert ?m_Place_lifted ?i_Place_lifted ?l_Place_lifted ?c_Place_lifted ?k_Place_lifted ?cn ?ct ?io_Place_int ?io_Place_bool ?is_NoneType_Place ?is_bool_Place ?is_int_Place ?is_str_Place ?is_list_Place ?is_tuple_Place ?is_dict_Place ?em_BadNumber_BadNumber ?em_TooFar_BadNumber ?em_BadNumber_BadPlace ?em_BadPlace_BadPlace ?em_TooFar_BadPlace ?em_TooFar_TooFar ?n_abs ?n_bool ?n_int ?n_isinstance ?n_len ?n_list ?n_max ?n_min ?n_range ?gc_MOST_STEPS ?mi_isqrt ?kk
    (case g_is_integer => k_is)
    (case l_is_integer => k_is)
    (case c_is_integer => k_is)
    (case k_is_integer => k_is)
    (case g_check_integer => k_is)
    (case l_check_integer => k_is)
    (case c_check_integer => k_is)
    (case k_check_integer => k_is)
    (case g_check_from => k_is)
    (case l_check_from => k_is)
    (case c_check_from => k_is)
    (case k_check_from => k_is)
    (case g_check_whole => k_is)
    (case l_check_whole => k_is)
    (case c_check_whole => k_is)
    (case k_check_whole => k_is)
    (case g_fewest_steps => k_is)
    (case l_fewest_steps => k_is)
    (case c_fewest_steps => k_is)
    (case k_fewest_steps => k_is)
    (case g_quotient_up => k_is)
    (case l_quotient_up => k_is)
    (case c_quotient_up => k_is)
    (case k_quotient_up => k_is)
    (case g_half_outline => k_is)
    (case l_half_outline => k_is)
    (case c_half_outline => k_is)
    (case k_half_outline => k_is)
    (case g_best_sides => k_is)
    (case l_best_sides => k_is)
    (case c_best_sides => k_is)
    (case k_best_sides => k_is)
    (case g_spare_steps => k_is)
    (case l_spare_steps => k_is)
    (case c_spare_steps => k_is)
    (case k_spare_steps => k_is)
    (case g_areas_of_walks => k_is)
    (case l_areas_of_walks => k_is)
    (case c_areas_of_walks => k_is)
    (case k_areas_of_walks => k_is)
    (case g_walks_by_halves => k_is)
    (case l_walks_by_halves => k_is)
    (case c_walks_by_halves => k_is)
    (case k_walks_by_halves => k_is)
    (case g_step_further => k_is)
    (case l_step_further => k_is)
    (case c_step_further => k_is)
    (case k_step_further => k_is)
    (case g_joined_walks => k_is)
    (case l_joined_walks => k_is)
    (case c_joined_walks => k_is)
    (case k_joined_walks => k_is)
    (case g_check_place => k_is)
    (case l_check_place => k_is)
    (case c_check_place => k_is)
    (case k_check_place => k_is)
    (case g_sphere_places => k_is)
    (case l_sphere_places => k_is)
    (case c_sphere_places => k_is)
    (case k_sphere_places => k_is)
    (case g_walks_to => k_is)
    (case l_walks_to => k_is)
    (case c_walks_to => k_is)
    (case k_walks_to => k_is)
    (case g_least_walks => k_is)
    (case l_least_walks => k_is)
    (case c_least_walks => k_is)
    (case k_least_walks => k_is)
    (case g_check_near => k_is)
    (case l_check_near => k_is)
    (case c_check_near => k_is)
    (case k_check_near => k_is)
    (case g_new_areas => k_is)
    (case l_new_areas => k_is)
    (case c_new_areas => k_is)
    (case k_new_areas => k_is)
    (case g_steps => k_is)
    (case l_steps => k_is)
    (case c_steps => k_is)
    (case k_steps => k_is)
    (case g_l_pen => k_is)
    (case l_l_pen => k_is)
    (case c_l_pen => k_is)
    (case k_l_pen => k_is)
    (case g_l_draw => k_is)
    (case l_l_draw => k_is)
    (case c_l_draw => k_is)
    (case k_l_draw => k_is)
    (case g_l_pick => k_is)
    (case l_l_pick => k_is)
    (case c_l_pick => k_is)
    (case k_l_pick => k_is)
    (case g_l_great => k_is)
    (case l_l_great => k_is)
    (case c_l_great => k_is)
    (case k_l_great => k_is)
    (case g_l_gone => k_is)
    (case l_l_gone => k_is)
    (case c_l_gone => k_is)
    (case k_l_gone => k_is)
    (case g_l_spot => k_is)
    (case l_l_spot => k_is)
    (case c_l_spot => k_is)
    (case k_l_spot => k_is)
    (case g_l_place => k_is)
    (case l_l_place => k_is)
    (case c_l_place => k_is)
    (case k_l_place => k_is)
    (case g_l_times => k_is)
    (case l_l_times => k_is)
    (case c_l_times => k_is)
    (case k_l_times => k_is)
    (case g_l_undone => k_is)
    (case l_l_undone => k_is)
    (case c_l_undone => k_is)
    (case k_l_undone => k_is)
    (case g_l_counted => k_is)
    (case l_l_counted => k_is)
    (case c_l_counted => k_is)
    (case k_l_counted => k_is)
    (case g_l_refused => k_is)
    (case l_l_refused => k_is)
    (case c_l_refused => k_is)
    (case k_l_refused => k_is)
    (case g_l_far_right => k_is)
    (case l_l_far_right => k_is)
    (case c_l_far_right => k_is)
    (case k_l_far_right => k_is)
    (case g_l_wrong_right => k_is)
    (case l_l_wrong_right => k_is)
    (case c_l_wrong_right => k_is)
    (case h_l_wrong_right => (first | k_is | exact rfl | kernel_rfl))
    (case n_l_wrong_right => (first | k_is | exact rfl | kernel_rfl))
    (case k_l_wrong_right => k_is)
    (case g_law => k_is)
    (case l_law => k_is)
    (case c_law => k_is)
    (case k_law => k_is)
    (case g_C_BadNumber => k_is)
    (case m_BadNumber_init => k_is)
    (case i_BadNumber_init => k_is)
    (case l_BadNumber_init => k_is)
    (case c_BadNumber_init => k_is)
    (case k_BadNumber_init => k_is)
    (case sa_BadNumber => k_is)
    (case ex_BadNumber => k_is)
    (case ty_BadNumber => k_is)
    (case kc_BadNumber => k_is)
    (case ga_BadNumber => k_is)
    (case gg_BadNumber => k_is)
    (case hd_BadNumber => k_is)
    (case x_BadNumber => k_is)
    (case na_BadNumber_value => k_is)
    (case g_C_BadPlace => k_is)
    (case m_BadPlace_init => k_is)
    (case i_BadPlace_init => k_is)
    (case l_BadPlace_init => k_is)
    (case c_BadPlace_init => k_is)
    (case k_BadPlace_init => k_is)
    (case sa_BadPlace => k_is)
    (case ex_BadPlace => k_is)
    (case ty_BadPlace => k_is)
    (case kc_BadPlace => k_is)
    (case ga_BadPlace => k_is)
    (case gg_BadPlace => k_is)
    (case hd_BadPlace => k_is)
    (case x_BadPlace => k_is)
    (case na_BadPlace_value => k_is)
    (case g_C_TooFar => k_is)
    (case m_TooFar_init => k_is)
    (case i_TooFar_init => k_is)
    (case l_TooFar_init => k_is)
    (case c_TooFar_init => k_is)
    (case k_TooFar_init => k_is)
    (case sa_TooFar => k_is)
    (case ex_TooFar => k_is)
    (case ty_TooFar => k_is)
    (case kc_TooFar => k_is)
    (case ga_TooFar => k_is)
    (case gg_TooFar => k_is)
    (case hd_TooFar => k_is)
    (case x_TooFar => k_is)
    (case na_TooFar_number => k_is)
    (case g_C_Place => k_is)
    (case pg_Place => k_is)
    (case hd_Place => k_is)
    (case po_Place => k_is)
    (case sa_Place => k_is)
    (case ca_Place => k_is)
    (case cm_Place => k_is)
    (case na_Place_x => k_is)
    (case na_Place_y => k_is)
    (case na_Place_area => k_is)
    (case m_Place_init => k_is)
    (case i_Place_init => k_is)
    (case l_Place_init => k_is)
    (case c_Place_init => k_is)
    (case k_Place_init => k_is)
    (case mk_Place => k_is)
    (case kc_Place => k_is)
    (case m_Place_invert => k_is)
    (case i_Place_invert => k_is)
    (case l_Place_invert => k_is)
    (case c_Place_invert => k_is)
    (case k_Place_invert => k_is)
    (case m_Place_lifted => k_is)
    (case i_Place_lifted => k_is)
    (case l_Place_lifted => k_is)
    (case c_Place_lifted => k_is)
    (case k_Place_lifted => k_is)
    (case cn => k_is)
    (case ct => k_is)
    (case io_Place_int => kit_is)
    (case io_Place_bool => kit_is)
    (case is_NoneType_Place => kit_is)
    (case is_bool_Place => kit_is)
    (case is_int_Place => kit_is)
    (case is_str_Place => kit_is)
    (case is_list_Place => kit_is)
    (case is_tuple_Place => kit_is)
    (case is_dict_Place => kit_is)
    (case em_BadNumber_BadNumber => kts_exm)
    (case em_TooFar_BadNumber => kts_exm)
    (case em_BadNumber_BadPlace => kts_exm)
    (case em_BadPlace_BadPlace => kts_exm)
    (case em_TooFar_BadPlace => kts_exm)
    (case em_TooFar_TooFar => kts_exm)
    (case n_abs => k_is)
    (case n_bool => k_is)
    (case n_int => k_is)
    (case n_isinstance => k_is)
    (case n_len => k_is)
    (case n_list => k_is)
    (case n_max => k_is)
    (case n_min => k_is)
    (case n_range => k_is)
    (case gc_MOST_STEPS => k_is)
    (case mi_isqrt => k_is)
    (case kk =>
      intro T ea ep_l_wrong_right
      exact AW.law_at T ea KX (by rw [ep_l_wrong_right]; exact ht 413 (by decide)) (by unfold AW.tabs1; simp only [List.map_cons, List.map_nil, ep_l_wrong_right]; decide))

