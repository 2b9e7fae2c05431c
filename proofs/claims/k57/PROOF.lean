import PyProof.Rows.All
import Wide.All
import OpenK.AllK
import Wide.FinOn
import PyProof.InstEq
import HandS.ForMost
import HandS.IsInst
import HandS.OwnEq
import HandS.SlotsOwn
import HandS.NamedTupSort
import HandS.Exc
import HandS.TryMany
import HandS.ExcField
import HandS.WordsExc
import HandS.Lambda
import OpenK.KOwn
import HandS.Gcd
import HandS.ExcOwn
import HandS.Small
import PyProof.ExcBaseAll.ValueError
import KE.KCallOwn
import HandS.Deep
import KE.DatumOrd
import KE.LtData
import KE.KDictDisplayH
import HandS.Iter
import HandS.Conv
import HandS.SortInts
import HandS.More
import KE.KDictCopyH
import KE.GoesEnum
import HandS.Star
import HandS.TupMul
import HandS.Style
import HandS.ExcIs
import HandS.Sort
import KE.KExcIs
import KE.KDictWalk
import PyProof.NeKinds
import HandS.Zip
import KE.GoesZip
import KE.GoesMore
import HandS.SortKw
import PyProof.MinMaxWalk
import HandS.ExcInit
import HandS.Wide
import HandS.Walk
import HandS.NoneIn
import HandS.CallLocal
import HandS.Text
import HandS.Property
import HandS.StrMore
import HandS.TupAny
import HandS.Replace
import KE.IntTextLaws
import KE.KMathG
import HandS.Flow
import HandS.TupLen
import HandS.WideBits
import KE.RegKIsAll
import KE.RegKTryMore
import KE.KNestM
import HandS.MakeKw
import HandS.Defaults
import KE.KEqSeq
import Flt.RightSqrt
import HandS.EndTab
import PySem.Challenge.RW_areawalks_k57_whole_prices_compared
set_option Elab.async false
set_option linter.all false
set_option maxRecDepth 100000
set_option maxHeartbeats 4000000
namespace AWR
open PySem PySem.W PyProof.Rows Builtin
section
variable {prog : Program} {w : World} {A : Around} {E : Value → Shared → Prop} {s : Shared} {K : Frag} {x C f : Addr} {ox : Obj} {oD : Option Obj} {b tb : Value}
end
end AWR

set_option linter.all false
set_option maxRecDepth 100000
set_option maxHeartbeats 4000000
namespace AWR
open PySem PySem.W PyProof.Rows Builtin
section
variable {prog : Program} {w : World} {A : Around} {E : Value → Shared → Prop} {s : Shared} {K : Frag} {x C f : Addr} {ox : Obj} {od : Option Obj} {b tb : Value}
end
end AWR

set_option linter.all false
set_option maxRecDepth 100000
set_option maxHeartbeats 4000000
namespace AW
open PySem PySem.Spec PyProof.Rows L2
section
variable {X : Cx} {CX : CXT} {k : Nat} {C f : Addr} {fd : FuncData} {ps : List Str} {sp : Sp} {E : XK}
end
end AW

set_option linter.all false
set_option maxRecDepth 100000
set_option maxHeartbeats 4000000
namespace AW
open PySem PySem.Spec PyProof.Rows L2
abbrev Clause := Value × Nat × (Addr → Value → Option Addr → TS)
section
variable {X : Cx} {body : List Stmt} {h₀ : ExceptHandler} {hds : List ExceptHandler} {l : List Clause} {pos : Pos} {tb : WX → TS} {Wout : WX}
end
end AW

set_option linter.all false
set_option maxRecDepth 100000
set_option maxHeartbeats 4000000
namespace AW
open PySem PySem.Spec PyProof.Rows L2 LamX
section
variable {X : Cx} {pins : List (Addr × Obj)} {σ : L2.St} {H HZ : Hp} {s s1 : Shared}
end
end AW

set_option linter.all false
set_option maxRecDepth 100000
set_option maxHeartbeats 4000000
namespace AW
open PySem PySem.Spec PyProof.Rows L2 LamX
section
variable {X : Cx}
end
end AW

set_option linter.all false
set_option maxRecDepth 100000
set_option maxHeartbeats 4000000
namespace AW
open PySem PySem.Spec PyProof.Rows L2 LamX
section
variable {X : Cx}
end
/-- a tuple of the text -/
theorem relV_of_abs {u : Value} {x : V} (h : absV u = some x) : RelV x u := by
  cases u <;> simp only [absV, Option.some.injEq, reduceCtorEq] at h <;> subst h <;> first | rfl | exact ⟨_, rfl⟩
theorem vals_of_abs : ∀ {us : List Value} {xs : List V}, us.map absV = xs.map some → Vals xs us
  | [], [], _ => .nil
  | [], _ :: _, h => nomatch h
  | _ :: _, [], h => nomatch h
  | u :: us, x :: xs, h => by
    rw [List.map_cons, List.map_cons, List.cons.injEq] at h
    exact .cons (relV_of_abs h.1) (vals_of_abs h.2)
theorem sqT_const {K : PySem.W.Frag} {H : Hp} {a : Addr} {od : Option Addr} {its : Array Value} {n : Nat} {sl : Array (Option Value)} {xs : List V} (lk : K.lookup a = some ⟨.type "tuple", od, .seq its n, sl⟩) (h : its.toList.map absV = xs.map some) (hl : xs.length ≤ sizeLine) : SqT K H a xs :=
  .inr ⟨_, its, n, lk, rfl, rfl, by
    have e := congrArg List.length h
    rw [List.length_map, List.length_map, Array.length_toList] at e
    omega, vals_of_abs h⟩
end AW

set_option linter.all false
set_option maxRecDepth 100000
set_option maxHeartbeats 4000000
namespace AW
open PySem PySem.Spec PyProof.Rows L2
end AW

set_option linter.all false
set_option maxRecDepth 100000
set_option maxHeartbeats 4000000
namespace AW
open PySem PySem.Spec PyProof.Rows L2
section
variable {M : Model} {A : Around} {E : Value → Shared → Prop} {s : Shared} {pos : Pos} {x C : Addr} {Q : Value → Shared → Prop}
end
end AW

set_option linter.all false
set_option maxRecDepth 100000
set_option maxHeartbeats 4000000
namespace AW
open PySem PySem.Spec PyProof.Rows L2
section
variable {X : Cx}
end
end AW

set_option linter.all false
set_option maxRecDepth 100000
set_option maxHeartbeats 1000000
namespace RM
open PySem PySem.Spec PyProof.Rows L2 PySem.W
theorem lt_lex : ∀ a b : List Int, listLt a b = HT.lexLt a b
  | [], [] => rfl
  | [], _ :: _ => rfl
  | _ :: _, [] => rfl
  | x :: xs, y :: ys => by
    rw [HT.lexLt_cons]
    show (if x = y then listLt xs ys else decide (x < y)) = _
    rw [lt_lex xs ys]
theorem lex_asym : ∀ a b : List Int, HT.lexLt a b = true → HT.lexLt b a = false
  | [], [], h => by cases h
  | [], _ :: _, _ => rfl
  | _ :: _, [], h => by cases h
  | x :: xs, y :: ys, h => by
    rw [HT.lexLt_cons] at h ⊢
    by_cases e : x = y
    · subst e
      rw [if_pos rfl] at h ⊢
      exact lex_asym xs ys h
    · rw [if_neg e] at h
      rw [if_neg (fun z => e z.symm)]
      have := of_decide_eq_true h
      exact decide_eq_false (by omega)
theorem lex_self : ∀ a : List Int, HT.lexLt a a = false
  | [] => rfl
  | x :: xs => by rw [HT.lexLt_cons, if_pos rfl]; exact lex_self xs
/-- not less is handed on -/
theorem lex_nl : ∀ a b c : List Int, HT.lexLt a b = false → HT.lexLt b c = false → HT.lexLt a c = false
  | [], [], c, _, h => h
  | [], _ :: _, _, h, _ => by cases h
  | _ :: _, _, [], _, _ => rfl
  | _ :: _, [], _ :: _, _, h => by cases h
  | x :: xs, y :: ys, z :: zs, h1, h2 => by
    rw [HT.lexLt_cons] at h1 h2 ⊢
    by_cases e1 : x = y
    · subst e1
      rw [if_pos rfl] at h1
      by_cases e2 : x = z
      · subst e2
        rw [if_pos rfl] at h2 ⊢
        exact lex_nl xs ys zs h1 h2
      · rw [if_neg e2] at h2 ⊢
        exact h2
    · rw [if_neg e1] at h1
      have h1 := of_decide_eq_false h1
      by_cases e2 : y = z
      · subst e2
        rw [if_neg e1]
        exact decide_eq_false h1
      · rw [if_neg e2] at h2
        have h2 := of_decide_eq_false h2
        have e3 : x ≠ z := by omega
        rw [if_neg e3]
        exact decide_eq_false (by omega)
theorem fold_min (ns : List (Tup Int)) : ∀ x : Tup Int, (minOf x ns ∈ x :: ns) ∧ ∀ y ∈ x :: ns, HT.lexLt y.items (minOf x ns).items = false := by
  induction ns with
  | nil =>
    intro x
    refine ⟨by simp [minOf], fun y hy => ?_⟩
    simp at hy
    subst hy
    exact lex_self _
  | cons n ns ih =>
    intro x
    have e : minOf x (n :: ns) = minOf (if DatumOrd.lt n x = true then n else x) ns := rfl
    have el : DatumOrd.lt n x = HT.lexLt n.items x.items := lt_lex _ _
    rw [e, el]
    by_cases h : HT.lexLt n.items x.items = true
    · rw [if_pos h]
      obtain ⟨h1, h2⟩ := ih n
      refine ⟨List.mem_cons_of_mem _ h1, fun y hy => ?_⟩
      rcases List.mem_cons.mp hy with rfl | hy
      · exact lex_nl _ _ _ (lex_asym _ _ h) (h2 n (by simp))
      · exact h2 y hy
    · have h : HT.lexLt n.items x.items = false := by simpa using h
      rw [h]
      rw [if_neg (by decide)]
      obtain ⟨h1, h2⟩ := ih x
      refine ⟨?_, fun y hy => ?_⟩
      · rcases List.mem_cons.mp h1 with z | z
        · rw [z]; simp
        · exact List.mem_cons_of_mem _ (List.mem_cons_of_mem _ z)
      · rcases List.mem_cons.mp hy with rfl | hy
        · exact h2 y (by simp)
        · rcases List.mem_cons.mp hy with rfl | hy
          · exact lex_nl _ _ _ h (h2 x (by simp))
          · exact h2 y (List.mem_cons_of_mem _ hy)
section
variable {X : Cx}
end
end RM

set_option linter.all false
set_option maxRecDepth 100000
set_option maxHeartbeats 4000000
namespace RN
open PySem PySem.SeqAt GQ
open AutoSeq1 (wpAny_loadPart')
open MeetsSeq MeetsSeq2 MeetsSeq3 SeqRoads2
section
variable {prog : Program} {w : World} {A : Around} {R : Result → Shared → Prop}
end
section
variable {prog : Program} {w : World} {A : Around} {E : Value → Shared → Prop} {s : Shared}
end
end RN
namespace AW
open PySem PySem.Spec PyProof.Rows L2
section
variable {X : Cx} {n : Nat} {D : Eqv}
end
end AW

set_option linter.all false
set_option maxRecDepth 100000
set_option maxHeartbeats 4000000
namespace AW
open PySem PySem.Spec PyProof.Rows L2
section
variable {X : Cx}
def iOr (t u : TI) : TI := fun σ H R => t σ H R ∨ u σ H R
theorem pi_or {tg l : Expr} {t u : TI} (h1 : PI X tg l t) (h2 : PI X tg l u) : PI X tg l (iOr t u) := ⟨fun pins s σ H R I h => h.elim (h1.run pins s σ H R I) (h2.run pins s σ H R I)⟩
end
end AW

set_option linter.all false
set_option maxRecDepth 100000
set_option maxHeartbeats 4000000
namespace RN
open PySem PySem.SeqAt GQ
open AutoSeq1 (wpAny_loadPart')
open MeetsSeq MeetsSeq2 MeetsSeq3 SeqRoads2
section
variable {prog : Program} {w : World} {A : Around} {R : Result → Shared → Prop}
end
section
variable {prog : Program} {w : World} {A : Around} {E : Value → Shared → Prop} {s : Shared}
end
end RN
namespace AW
open PySem PySem.Spec PyProof.Rows L2
section
variable {X : Cx}
end
end AW

set_option linter.all false
set_option maxRecDepth 100000
set_option maxHeartbeats 4000000
namespace AW
open PySem PySem.Spec PyProof.Rows L2
section
variable {X : Cx}
end
def EntL (K : PySem.W.Frag) (w : World) : List DictEntry → List (Str × List V) → Prop
  | [], [] => True
  | e :: es, (k, xs) :: l => (∃ t b, e = ⟨hashStr w k, .str k t, .ref b⟩ ∧ ∀ H : Hp, SqT K H b xs) ∧ EntL K w es l
  | _, _ => False
class CDict (K : PySem.W.Frag) (w : World) (nm : Str) (l : List (Str × List V)) : Prop where
  ok : ∀ a, PySem.W.nsIn K mainGlobals nm = some (some (.ref a)) → ∃ (es : Array DictEntry) (ep : Nat), K.lookup a = some ⟨.type "dict", none, .dict es ep, #[]⟩ ∧ EntL K w es.toList l ∧ (a == sysModules) = false
section
variable {X : Cx}
end
end AW

set_option linter.all false
set_option maxRecDepth 100000
set_option maxHeartbeats 4000000
namespace AW
open PySem PySem.Spec PyProof.Rows L2
abbrev I3 := Int × Int × Int
abbrev l3 (p : I3) : List Int := [p.1, p.2.1, p.2.2]
def IsTrip (h : Heap) (v : Value) (p : I3) : Prop := ∃ a o t u w n, v = .ref a ∧ h.get? a = some o ∧ o.cls = .type "tuple" ∧ o.data = .seq #[.int p.1 t, .int p.2.1 u, .int p.2.2 w] n
theorem IsTrip.keeps {h h' : Heap} {v : Value} {x : I3} (p : IsTrip h v x) (k : ∀ b o, h.get? b = some o → o.cls = .type "tuple" → h'.get? b = some o) : IsTrip h' v x := by
  obtain ⟨a, o, t, u, w, n, e, ho, hc, hd⟩ := p
  exact ⟨a, o, t, u, w, n, e, k _ _ ho hc, hc, hd⟩
section
variable {prog : Program} {w : World} {A : Around} {s : Shared}
end
section
variable {X : Cx}
end
end AW

set_option linter.all false
set_option maxRecDepth 100000
set_option maxHeartbeats 4000000
namespace AW
open PySem PySem.Spec PyProof.Rows L2
section
variable {X : Cx} {CX : CXT} {k : Nat} {f C : Addr} {fd : FuncData} {ps : List Str} {ds : List Value} {dvs : List V} {sp : Sp} {E : XK} {x : Str} {e : Expr} {te : TE} {p q pos : Pos}
end
end AW

set_option linter.all false
set_option maxRecDepth 100000
set_option maxHeartbeats 4000000
namespace AW
open PySem PySem.Spec PyProof.Rows L2
section
variable {X : Cx}
end
end AW

set_option linter.all false
set_option maxRecDepth 100000
set_option maxHeartbeats 4000000
namespace AW
open PySem PySem.Spec PyProof.Rows L2
end AW

set_option linter.all false
set_option maxRecDepth 100000
set_option maxHeartbeats 4000000
namespace AW
open PySem PySem.Spec PyProof.Rows L2
section
variable {prog : Program} {w : World} {A : Around} {E : Value → Shared → Prop} {s : Shared}
end
section
variable {X : Cx}
end
end AW

set_option linter.all false
set_option maxRecDepth 100000
set_option maxHeartbeats 4000000
namespace AW
open PySem PySem.Spec PyProof.Rows L2
end AW

set_option linter.all false
set_option maxRecDepth 100000
set_option maxHeartbeats 4000000
namespace AW
open PySem PySem.Spec PyProof.Rows L2
end AW

set_option linter.all false
set_option maxRecDepth 100000
set_option maxHeartbeats 4000000
namespace AWR
open PySem PySem.W PyProof.Rows Builtin
section
variable {prog : Program} {w : World} {A : Around} {E : Value → Shared → Prop} {s : Shared} {K : Frag} {x C f : Addr} {ox : Obj} {oD : Option Obj} {b tb : Value}
end
end AWR
namespace AW
open PySem PySem.Spec PyProof.Rows L2
section
variable {X : Cx} {CX : CXT} {k : Nat} {C f : Addr} {fd : FuncData} {ps : List Str} {sp : Sp} {E : XK}
end
end AW

set_option linter.all false
set_option maxRecDepth 100000
set_option maxHeartbeats 4000000
namespace RI
open PySem PySem.SeqAt
section
variable {prog : Program} {w : World} {A : Around} {E : Value → Shared → Prop} {s : Shared} {K : PySem.W.Frag} {x y C : Addr} {ox oy : Obj} {od od' : Option Obj}
end
end RI
namespace AW
open PySem PySem.Spec PyProof.Rows L2
section
variable {X : Cx}
end
end AW

set_option linter.all false
set_option maxRecDepth 100000
set_option maxHeartbeats 1000000
namespace RM
open PySem PySem.Spec PyProof.Rows L2 PySem.W
section
variable {X : Cx}
end
end RM

set_option linter.all false
set_option maxRecDepth 100000
set_option maxHeartbeats 2000000
namespace RM
open PySem PySem.Spec PyProof.Rows L2 PySem.W PySem.SeqAt
/-- the smaller of two, of data -/
theorem pair_data {pg : Program} {wd : World} {Ar : Around} {Er : Value → Shared → Prop} {st : Shared} {u v : Value} {dx dy : PyData} {ads : List Addr} {Qe : Value → Shared → Prop} (cold : Ar.handled = none)
    (rd : ReadsAll st.heap [u, v] [dx, dy] ads) (al : AlikeAll [dx, dy]) (room : Ar.units + 1 + PyData.depthAll [dx, dy] < cLine)
    (fin : ∀ (j : Nat) z hp tk bs, (#[u, v] : Array Value)[j]? = some z → Reads hp z (minD dx [dy]) bs → (∀ c o, st.heap.get? c = some o → hp.get? c = some o) → Qe z { st with heap := hp, toks := tk }) :
    wpAny (model pg wd) Ar (call (.builtin "min") [u, v]) Qe Er st := by
  have lp : (toString "min" ++ toString ".loop" : String) = "min.loop" := by decide
  refine PySem.call_function_tree PySem.F.kind_min PySem.F.plain_min PySem.F.entry_min (PySem.F.args_min2 _ _) ?_
  show wpAny _ Ar.in1 (Builtin.Builtins.bindParams "min" ["key", "default"] 0 { pos := [], kw := [] } >>= _) _ _ st
  refine wpAny_bind (wpAny_of_eq (a := [none, none]) rfl ?_)
  show wpAny _ Ar.in1 (newTuple (u :: [v]) >>= _) _ _ st
  refine wpAny_bind (wpAny_newObj_type ?_)
  have tp : (st.heap.push { cls := .type "tuple", data := .seq #[u, v] }).IsTuple st.heap.objs.size #[u, v] := ⟨_, Heap.get?_push_size _ rfl, rfl, 0, rfl⟩
  have grow : ∀ c o, st.heap.get? c = some o → (st.heap.push { cls := .type "tuple", data := .seq #[u, v] }).get? c = some o := fun c o e => Heap.get?_push_of_some _ e
  have rd2 : ReadsAll (st.heap.push { cls := .type "tuple", data := .seq #[u, v] }) [u, v] [dx, dy] ads := ReadsAll.keeps grow rd
  refine wpAny_bind (wpAny_mono (iter_tupleW (A := Ar.in1) (Q := fun it s2 => it = .ref (st.heap.objs.size + 1) ∧
    WalksS pg wd Ar.in1 (st.heap.objs.size + 1) [st.heap.objs.size + 1, st.heap.objs.size] [st.heap.objs.size + 1] (fun p q => q = p) 2 (fun i z => (#[u, v] : Array Value)[i]? = some z) (fun i s' => s'.heap.IsTupleIter (st.heap.objs.size + 1) st.heap.objs.size i ∧ s'.heap.IsTuple st.heap.objs.size #[u, v]) ∧
    (s2.heap.IsTupleIter (st.heap.objs.size + 1) st.heap.objs.size 0 ∧ s2.heap.IsTuple st.heap.objs.size #[u, v]) ∧
    (∀ c ∈ [st.heap.objs.size + 1, st.heap.objs.size], c < s2.heap.objs.size) ∧
    ∃ ob, s2 = { st with heap := (st.heap.push { cls := .type "tuple", data := .seq #[u, v] }).push ob }) cold tp (fun s2 e W t0 t1 t2 t3 => ?_)) (fun it s2 h2 => ?_) fun _ _ e => e)
  · rw [Heap.size_push] at W t0 t1 ⊢
    exact ⟨rfl, W, t0, t1, _, e⟩
  · obtain ⟨rfl, W, t0, t1, ob, e2⟩ := h2
    have k2 : ∀ c o, (st.heap.push { cls := .type "tuple", data := .seq #[u, v] }).get? c = some o → s2.heap.get? c = some o := fun c o e => by rw [e2]; exact Heap.get?_push_of_some _ e
    have old : ∀ c o, (st.heap.push { cls := .type "tuple", data := .seq #[u, v] }).get? c = some o → c ∉ [st.heap.objs.size + 1] := fun c o e hm => by
      have := Heap.lt_size e
      rw [Heap.size_push, List.mem_singleton.mp hm] at this
      exact Nat.lt_irrefl _ this
    refine wpAny_bind (wpAny_newObj_type ?_)
    have nin : s2.heap.objs.size ∉ [st.heap.objs.size + 1, st.heap.objs.size] := fun hm => Nat.lt_irrefl _ (t1 _ hm)
    rw [lp]
    refine wpAny_pure ⟨plainId_quiet PySem.F.plain_min_loop _, codeAny_min_loop_firstH W (st.heap.push { cls := .type "tuple", data := .seq #[u, v] }) old (fun i j => dataLt ([dx, dy].getD i .none) ([dx, dy].getD j .none)) (cmpIn_lt (A := Ar.in1) (s := { st with heap := st.heap.push { cls := .type "tuple", data := .seq #[u, v] } }) (vs := #[u, v]) rd2 al (show Ar.units + 1 + _ < _ from room)) s2.heap.objs.size nin (fresh_in k2) _ (by decide)
      (fun c o e => Heap.get?_push_of_some _ (k2 c o e)) (W.frame 0 s2 _ s2.toks t0 (Nat.le_refl _) fun c _ o e => Heap.get?_push_of_some _ e) (Heap.get?_push_size _ rfl) fun z s' hz hm => ?_⟩
    have hm2 := Moved.drop_new (tk := s2.toks) hm (Nat.le_refl _)
    have e3 : s2 = { st with heap := (st.heap.push { cls := .type "tuple", data := .seq #[u, v] }).push ob } := e2
    obtain ⟨hp, tk, rfl, kp⟩ := moved_old (s := { st with heap := st.heap.push { cls := .type "tuple", data := .seq #[u, v] } }) e3 (by rw [Heap.size_push]) hm2
    obtain ⟨bs, rz, _, _, _⟩ := readsAll_atA (vs := #[u, v]) rd2 _ z hz
    have best := (argBest_fold dataLt PyData.none dx [dy] 1 (Nat.le_refl _)).2
    have rz2 : Reads (st.heap.push { cls := .type "tuple", data := .seq #[u, v] }) z (minD dx [dy]) bs := by
      unfold minD
      rw [show List.take 1 [dy] = [dy] from rfl] at best
      rw [← best]
      exact rz
    exact fin _ z hp tk bs hz (reads_keeps kp rz2) fun c o e => kp c o (grow c o e)
theorem pair_datum {pg : Program} {wd : World} {Ar : Around} {Er : Value → Shared → Prop} {st : Shared} {u v : Value} {x y : Tup Int} {Qe : Value → Shared → Prop} (cold : Ar.handled = none)
    (hd : HoldAll st.heap [u, v] [x, y]) (room : Ar.units + 1 + 1 < cLine)
    (fin : ∀ (j : Nat) z hp tk, (#[u, v] : Array Value)[j]? = some z → Holds hp z (minOf x [y]) → (∀ c o, st.heap.get? c = some o → hp.get? c = some o) → Qe z { st with heap := hp, toks := tk }) :
    wpAny (model pg wd) Ar (call (.builtin "min") [u, v]) Qe Er st := by
  obtain ⟨ads, rd⟩ := hd
  refine pair_data cold rd (alikeAll_datum [x, y]) (room_all (depthAll_map [x, y]) room) fun j z hp tk bs hj r kp => fin j z hp tk hj ⟨bs, ?_⟩ kp
  rw [← minD_map]; exact r
def rMin2T (K : PySem.W.Frag) : List V → Hp → VK → Prop := fun vs H Q => ∃ (u1 u2 : V) (n1 n2 : List Int), vs = [u1, u2] ∧ (∃ t, u1 = .ref t ∧ SqT K H t (n1.map V.int)) ∧ (∃ t, u2 = .ref t ∧ SqT K H t (n2.map V.int)) ∧
  (HT.lexLt n2 n1 = false → Q u1 H) ∧ (HT.lexLt n1 n2 = false → Q u2 H)
theorem tup_eq {h : Heap} {t : Addr} {a b : Array Value} (p : h.IsTuple t a) (q : h.IsTuple t b) : a = b := by
  obtain ⟨o, g1, _, n, d1⟩ := p
  obtain ⟨o', g2, _, n', d2⟩ := q
  rw [g1] at g2
  cases g2
  rw [d1] at d2
  injection d2
section
variable {X : Cx}
theorem cr_min2T (hc : X.calm = true) (hu : X.A.units + 65 < cLine) : CallR X (.builtin "min") (rMin2T X.K) := by
  intro pins s σ H vs us' Q I r h
  obtain ⟨u1, u2, n1, n2, rfl, ⟨t1, rfl, q1⟩, ⟨t2, rfl, q2⟩, k1, k2⟩ := h
  obtain ⟨w1, w2, rfl, r1, r2⟩ := L2.vals2 r
  obtain rfl : w1 = .ref t1 := r1
  obtain rfl : w2 = .ref t2 := r2
  obtain ⟨i1, a1, p1, _⟩ := I.tuple q1
  obtain ⟨i2, a2, p2, _⟩ := I.tuple q2
  have HA : HoldAll s.heap [.ref t1, .ref t2] [Tup.mk n1, Tup.mk n2] :=
    HoldAll.cons (holds_tup (show s.heap.IsTuple t1 i1.toArray from p1) (HoldAll.of_ints (by simpa using a1.ints))) (HoldAll.cons (holds_tup (show s.heap.IsTuple t2 i2.toArray from p2) (HoldAll.of_ints (by simpa using a2.ints))) HoldAll.nil)
  refine pair_datum (I.ok.hd hc) HA (show X.A.units + 1 + 1 < cLine by omega) fun j z hp tk hj hv hk => ?_
  have lst := (fold_min [Tup.mk n2] (Tup.mk n1)).2
  have key : ∀ (t : Addr) (its : List Value) (ns : List Int), IntsAre its ns → s.heap.IsTuple t its.toArray → z = .ref t → ns = (minOf (Tup.mk n1) [Tup.mk n2]).items := fun t its ns hi hp1 ez => by
    subst ez
    obtain ⟨l, ws, e, hT, hA⟩ := tup_of_holds hv
    cases e
    have ew : ws = its.toArray := tup_eq hT (IsTup.keeps hp1 hk)
    subst ew
    have e1 : IntsAre its (minOf (Tup.mk n1) [Tup.mk n2]).items := by simpa using hA.toInts
    rw [← e1.numsOf, ← hi.numsOf]
  match j, hj with
  | 0, hj =>
    have ez : z = .ref t1 := (Option.some.inj hj).symm
    have e2 := key t1 i1 n1 a1.ints p1 ez
    rw [ez]
    refine ⟨.ref t1, H, I.kept hk, rfl, k1 ?_⟩
    have := lst (Tup.mk n2) (by simp)
    rw [← e2] at this
    exact this
  | 1, hj =>
    have ez : z = .ref t2 := (Option.some.inj hj).symm
    have e2 := key t2 i2 n2 a2.ints p2 ez
    rw [ez]
    refine ⟨.ref t2, H, I.kept hk, rfl, k2 ?_⟩
    have := lst (Tup.mk n1) (by simp)
    rw [← e2] at this
    exact this
  | n + 2, hj => exact nomatch hj
end
end RM

set_option linter.all false
set_option maxRecDepth 100000
set_option maxHeartbeats 4000000
namespace AW
open PySem PySem.Spec PyProof.Rows L2 LamX
/-- the tables of the lambdas, of a law's text -/
class Tbs where
  T : List (Addr × Str)
inductive D where
  | non | bl (b : Bool) | int (i : Int) | str (x : Str)
  | tup (ds : List D) | lst (ds : List D)
  | ins (C : Addr) (ns : List Str) (ds : List D)
  | pen (k l : Str)
  | scr (ns : List Int)
  | val (v : V)
  | lam (q : Str) (mk : Addr → Addr → HO)
  | at_ (u : V) (d : D)
  | edk
  | dk (ks : List Str) (ds : List D)
  | tb (d : D)
  | kt (ks : List Key)
  | dt (lk : Bool) (ks : List (List Key)) (ds : List D)
def penE (k l : Str) (c : Addr) (s r : Int) : List (Key × V) := [(Sum.inr "cells", .ref c), (Sum.inr k, .int s), (Sum.inr l, .int r)]
def IsPen (o : HO) : Prop := (∃ k l c s r, o = .dK (penE k l c s r)) ∨ ∃ ps, o = .tbl ps
/-- how many cells a pen has: the tape of the tables' laws (keys at, rest) has one at least -/
def PenL (k l : Str) (n : Nat) : Prop := n ≤ 63 ∧ (k = "at" → l = "rest" → 0 < n)
variable [Tbs]
section
variable (K : PySem.W.Frag) (G : Hp) (B : Int)
mutual
def Rep : D → V → Prop
  | .non, v => v = .non
  | .bl b, v => v = .bl b
  | .int i, v => v = .int i
  | .str x, v => v = .str x
  | .tup ds, v => ∃ a vs, v = .ref a ∧ SqT K G a vs ∧ RepL ds vs
  | .lst ds, v => ∃ a vs, v = .ref a ∧ G a = some (.lst vs) ∧ RepL ds vs
  | .ins C ns ds, v => ∃ a dx vs, v = .ref a ∧ G a = some (.ins C dx (ns.zip vs)) ∧ ns.length = vs.length ∧ RepL ds vs
  | .pen k l, v => Tabs Tbs.T G ∧ ∃ (a c : Addr) (ns : List Int) (s r : Int), v = .ref a ∧ G a = some (.dK (penE k l c s r)) ∧ G c = some (.lst (ns.map V.int)) ∧ PenL k l ns.length ∧ 0 ≤ s ∧ s ≤ B
  | .val u, v => v = u
  | .at_ u d, v => v = u ∧ Rep d v
  | .tb d, v => Tabs Tbs.T G ∧ Rep d v
  | .edk, v => ∃ a, v = .ref a ∧ G a = some (.dK [])
  | .dk ks ds, v => ∃ a vs, v = .ref a ∧ G a = some (.dK (mergeK [] ((ks.zip vs).map fun p => ((Sum.inr p.1 : Key), p.2)))) ∧ ¬ IsPen (.dK (mergeK [] ((ks.zip vs).map fun p => ((Sum.inr p.1 : Key), p.2)))) ∧ RepL ds vs
  | .kt ks, v => ∃ a, v = .ref a ∧ G a = some (.tup (ks.map kV))
  | .dt lk ks ds, v => ∃ a vs, v = .ref a ∧ (G a = some (.dT (ks.zip vs)) ∨ lk = true ∧ ∃ o, G a = some (.frz o (.dT (ks.zip vs)))) ∧ ks.length = vs.length ∧ RepL ds vs
  | .lam q mk, v => ∃ f d, v = .ref f ∧ G f = some (mk f d) ∧ G d = some (CodeO d q) ∧ ¬ IsPen (mk f d)
  | .scr ns, v => Tabs Tbs.T G ∧ ∃ a, v = .ref a ∧ SqL K G a ((ns : List Int).map V.int)
def RepL : List D → List V → Prop
  | [], vs => vs = []
  | d :: ds, vs => ∃ v r, vs = v :: r ∧ Rep d v ∧ RepL ds r
end
end
def Sub (G H : Hp) : Prop := ∀ a o, G a = some o → H a = some o
structure Le (G : Hp) (B : Int) (G' : Hp) (B' : Int) : Prop where
  b : B ≤ B'
  keep : ∀ a o, G a = some o → ¬ IsPen o → G' a = some o
  pen : ∀ a k l c s r, G a = some (.dK (penE k l c s r)) → ∃ s' r', G' a = some (.dK (penE k l c s' r')) ∧ (0 ≤ s → s ≤ B → 0 ≤ s' ∧ s' ≤ B')
  tb : Tabs Tbs.T G → Tabs Tbs.T G'
theorem Le.refl (G : Hp) (B : Int) : Le G B G B := ⟨Int.le_refl _, fun _ _ h _ => h, fun _ _ _ _ s r h => ⟨s, r, h, fun a b => ⟨a, b⟩⟩, fun h => h⟩
theorem Le.trans {G G1 G2 : Hp} {B B1 B2 : Int} (a : Le G B G1 B1) (b : Le G1 B1 G2 B2) : Le G B G2 B2 :=
  ⟨Int.le_trans a.b b.b, fun c o h n => b.keep c o (a.keep c o h n) n, fun c k l q s r h => by
    obtain ⟨s1, r1, h1, k1⟩ := a.pen c k l q s r h
    obtain ⟨s2, r2, h2, k2⟩ := b.pen c k l q s1 r1 h1
    exact ⟨s2, r2, h2, fun x y => k2 (k1 x y).1 (k1 x y).2⟩, fun h => b.tb (a.tb h)⟩
theorem Le.of_sub {G H : Hp} {B B' : Int} (s : Sub G H) (b : B ≤ B') : Le G B H B' := ⟨b, fun a o h _ => s a o h, fun a k l c z r h => ⟨z, r, s _ _ h, fun x y => ⟨x, Int.le_trans y b⟩⟩, fun h => h.ext s⟩
theorem nopen_tup {xs : List V} : ¬ IsPen (.tup xs) := fun h => by
  rcases h with ⟨_, _, _, _, _, h⟩ | ⟨_, h⟩ <;> cases h
theorem nopen_lst {xs : List V} : ¬ IsPen (.lst xs) := fun h => by
  rcases h with ⟨_, _, _, _, _, h⟩ | ⟨_, h⟩ <;> cases h
theorem nopen_ins {C dx : Addr} {fs : List (Str × V)} : ¬ IsPen (.ins C dx fs) := fun h => by
  rcases h with ⟨_, _, _, _, _, h⟩ | ⟨_, h⟩ <;> cases h
theorem nopen_frz {o : Obj} {u : HO} : ¬ IsPen (.frz o u) := fun h => by
  rcases h with ⟨_, _, _, _, _, h⟩ | ⟨_, h⟩ <;> cases h
theorem nopen_edk : ¬ IsPen (.dK []) := fun h => by
  rcases h with ⟨_, _, _, _, _, h⟩ | ⟨_, h⟩ <;> cases h
theorem nopen_code {c : Addr} {q : Str} : ¬ IsPen (CodeO c q) := fun h => by
  unfold CodeO at h
  rcases h with ⟨_, _, _, _, _, h⟩ | ⟨_, h⟩ <;> cases h
theorem nopen_dT {kvs : List (List Key × V)} : ¬ IsPen (.dT kvs) := fun h => by
  rcases h with ⟨_, _, _, _, _, h⟩ | ⟨_, h⟩ <;> cases h
theorem Le.seqT {K : PySem.W.Frag} {G G' : Hp} {B B' : Int} {a : Addr} {xs : List V} (l : Le G B G' B') (h : SqT K G a xs) : SqT K G' a xs := by
  rcases h with (h | ⟨o, h⟩) | h
  · exact .inl (.inl (l.keep _ _ h nopen_tup))
  · exact .inl (.inr ⟨o, l.keep _ _ h nopen_frz⟩)
  · exact .inr h
theorem Le.seqL {K : PySem.W.Frag} {G G' : Hp} {B B' : Int} {a : Addr} {xs : List V} (l : Le G B G' B') (h : SqL K G a xs) : SqL K G' a xs := by
  rcases h with (h | ⟨o, h⟩) | h
  · exact .inl (.inl (l.keep _ _ h nopen_lst))
  · exact .inl (.inr ⟨o, l.keep _ _ h nopen_frz⟩)
  · exact .inr h
section
variable {K : PySem.W.Frag} {G G' : Hp} {B B' : Int}
mutual
theorem Rep.mono (l : Le G B G' B') : ∀ {d : D} {v : V}, Rep K G B d v → Rep K G' B' d v
  | .non, _, h => h
  | .bl _, _, h => h
  | .int _, _, h => h
  | .str _, _, h => h
  | .tup _, _, ⟨a, vs, e, h, r⟩ => ⟨a, vs, e, l.seqT h, RepL.mono l r⟩
  | .lst _, _, ⟨a, vs, e, h, r⟩ => ⟨a, vs, e, l.keep _ _ h nopen_lst, RepL.mono l r⟩
  | .ins _ _ _, _, ⟨a, dx, vs, e, h, n, r⟩ => ⟨a, dx, vs, e, l.keep _ _ h nopen_ins, n, RepL.mono l r⟩
  | .pen k j, _, ⟨hT, a, c, ns, s, r, e, h, hc, n, h0, h1⟩ => by
    obtain ⟨s', r', h', q⟩ := l.pen a k j c s r h
    exact ⟨l.tb hT, a, c, ns, s', r', e, h', l.keep _ _ hc nopen_lst, n, (q h0 h1).1, (q h0 h1).2⟩
  | .val _, _, h => h
  | .at_ _ _, _, ⟨e, h⟩ => ⟨e, Rep.mono l h⟩
  | .tb _, _, ⟨e, h⟩ => ⟨l.tb e, Rep.mono l h⟩
  | .edk, _, ⟨a, e, h⟩ => ⟨a, e, l.keep _ _ h nopen_edk⟩
  | .dk _ _, _, ⟨a, vs, e, h, n, r⟩ => ⟨a, vs, e, l.keep _ _ h n, n, RepL.mono l r⟩
  | .kt _, _, ⟨a, e, h⟩ => ⟨a, e, l.keep _ _ h nopen_tup⟩
  | .dt _ _ _, _, ⟨a, vs, e, h, n, r⟩ => ⟨a, vs, e, h.imp (fun z => l.keep _ _ z nopen_dT) (fun z => ⟨z.1, let ⟨o, y⟩ := z.2; ⟨o, l.keep _ _ y nopen_frz⟩⟩), n, RepL.mono l r⟩
  | .lam _ _, _, ⟨f, d, e, h1, h2, n⟩ => ⟨f, d, e, l.keep _ _ h1 n, l.keep _ _ h2 nopen_code, n⟩
  | .scr _, _, ⟨hT, a, e, h⟩ => ⟨l.tb hT, a, e, l.seqL h⟩
theorem RepL.mono (l : Le G B G' B') : ∀ {ds : List D} {vs : List V}, RepL K G B ds vs → RepL K G' B' ds vs
  | [], _, h => h
  | _ :: _, _, ⟨v, r, e, h, hr⟩ => ⟨v, r, e, Rep.mono l h, RepL.mono l hr⟩
end
theorem RepL.length : ∀ {ds : List D} {vs : List V}, RepL K G B ds vs → ds.length = vs.length
  | [], _, h => by rw [show _ = _ from h]; rfl
  | _ :: _, _, ⟨v, r, e, h, hr⟩ => by rw [e, List.length_cons, List.length_cons, RepL.length hr]
theorem RepL.get : ∀ {ds : List D} {vs : List V} {i : Nat} {d : D}, RepL K G B ds vs → ds[i]? = some d → ∃ v, vs[i]? = some v ∧ Rep K G B d v
  | [], _, _, _, _, e => by simp at e
  | _ :: _, _, 0, d, ⟨v, r, e, h, hr⟩, q => by
    simp at q; subst q
    exact ⟨v, by rw [e]; rfl, h⟩
  | _ :: _, _, i + 1, d, ⟨v, r, e, h, hr⟩, q => by
    obtain ⟨u, h1, h2⟩ := RepL.get (i := i) hr (by simpa using q)
    exact ⟨u, by rw [e]; simpa using h1, h2⟩
theorem RepL.get' : ∀ {ds : List D} {vs : List V} {i : Nat} {v : V}, RepL K G B ds vs → vs[i]? = some v → ∃ d, ds[i]? = some d ∧ Rep K G B d v
  | [], _, i, _, h, e => by rw [show _ = _ from h] at e; simp at e
  | d :: _, _, 0, v, ⟨u, r, e, h, hr⟩, q => by
    rw [e] at q; simp at q; subst q
    exact ⟨d, rfl, h⟩
  | d :: _, _, i + 1, v, ⟨u, r, e, h, hr⟩, q => by
    rw [e] at q
    obtain ⟨w, h1, h2⟩ := RepL.get' (i := i) hr (by simpa using q)
    exact ⟨w, by simpa using h1, h2⟩
theorem RepL.append : ∀ {ds es : List D} {vs ws : List V}, RepL K G B ds vs → RepL K G B es ws → RepL K G B (ds ++ es) (vs ++ ws)
  | [], _, _, _, h, k => by rw [show _ = _ from h]; exact k
  | _ :: _, _, _, _, ⟨v, r, e, h, hr⟩, k => ⟨v, r ++ _, by rw [e]; rfl, h, RepL.append hr k⟩
theorem RepL.take : ∀ {ds : List D} {vs : List V} (n : Nat), RepL K G B ds vs → RepL K G B (ds.take n) (vs.take n)
  | _, _, 0, _ => by simp [RepL]
  | [], _, n + 1, h => by rw [show _ = _ from h]; simp [RepL]
  | _ :: _, _, n + 1, ⟨v, r, e, h, hr⟩ => ⟨v, r.take n, by rw [e]; rfl, h, RepL.take n hr⟩
theorem RepL.drop : ∀ {ds : List D} {vs : List V} (n : Nat), RepL K G B ds vs → RepL K G B (ds.drop n) (vs.drop n)
  | _, _, 0, h => h
  | [], _, n + 1, h => by rw [show _ = _ from h]; simp [RepL]
  | _ :: _, _, n + 1, ⟨v, r, e, h, hr⟩ => by rw [e]; exact RepL.drop n hr
theorem RepL.ints : ∀ ns : List Int, RepL K G B (ns.map D.int) (ns.map V.int)
  | [] => rfl
  | _ :: r => ⟨_, _, rfl, rfl, RepL.ints r⟩
end
/-- no table, no tuple -/
abbrev NTb (o : HO) : Prop := (∀ ps, o ≠ .tbl ps) ∧ ∀ xs, o ≠ .tup xs
/-- the heap H with its known part G, grown to H' with G' -/
structure Ext (G H : Hp) (B : Int) (G' H' : Hp) (B' : Int) : Prop where
  le : Le G B G' B'
  sub : Sub G' H'
  fr : ∀ a o, H a = some o → G a = none → NTb o → H' a = some o ∧ G' a = none
theorem Ext.refl {G H : Hp} {B : Int} (s : Sub G H) : Ext G H B G H B := ⟨Le.refl _ _, s, fun _ _ h n _ => ⟨h, n⟩⟩
theorem Ext.trans {G H G1 H1 G2 H2 : Hp} {B B1 B2 : Int} (a : Ext G H B G1 H1 B1) (b : Ext G1 H1 B1 G2 H2 B2) : Ext G H B G2 H2 B2 :=
  ⟨a.le.trans b.le, b.sub, fun c o h n t => b.fr c o (a.fr c o h n t).1 (a.fr c o h n t).2 t⟩
/-- a new known object -/
theorem Ext.new {G H : Hp} {B : Int} {p : Addr} {o : HO} (s : Sub G H) (h : H p = none) : Ext G H B (upd G p o) (upd H p o) B := by
  have g : G p = none := by
    cases e : G p with
    | none => rfl
    | some u => rw [s _ _ e] at h; cases h
  refine ⟨Le.of_sub (fun a u e => by rw [upd_ne (ne_of_none e g)]; exact e) (Int.le_refl _), fun a u e => ?_, fun a u e n _ => ?_⟩
  · by_cases q : a = p
    · subst q; rw [upd_same] at e ⊢; exact e
    · rw [upd_ne q] at e ⊢; exact s _ _ e
  · have q := ne_of_none e h
    rw [upd_ne q, upd_ne q]
    exact ⟨e, n⟩
/-- a new object that is not told -/
theorem Ext.hid {G H : Hp} {B : Int} {p : Addr} {o : HO} (s : Sub G H) (h : H p = none) : Ext G H B G (upd H p o) B :=
  ⟨Le.refl _ _, fun a u e => by rw [upd_ne (ne_of_none (s _ _ e) h)]; exact s _ _ e, fun a u e n _ => ⟨by rw [upd_ne (ne_of_none e h)]; exact e, n⟩⟩
def EnvR (K : PySem.W.Frag) (G : Hp) (B : Int) : List (Option D) → L2.St → Prop
  | [], σ => σ = []
  | o :: ρ, σ => ∃ x r, σ = x :: r ∧ (∀ d, o = some d → ∃ v, x = some v ∧ Rep K G B d v) ∧ EnvR K G B ρ r
section
variable {K : PySem.W.Frag} {G G' : Hp} {B B' : Int}
theorem EnvR.mono (l : Le G B G' B') : ∀ {ρ : List (Option D)} {σ : L2.St}, EnvR K G B ρ σ → EnvR K G' B' ρ σ
  | [], _, h => h
  | _ :: _, _, ⟨x, r, e, h, hr⟩ => ⟨x, r, e, fun d q => let ⟨v, h1, h2⟩ := h d q; ⟨v, h1, h2.mono l⟩, EnvR.mono l hr⟩
theorem EnvR.get : ∀ {ρ : List (Option D)} {σ : L2.St} {i : Nat} {d : D}, EnvR K G B ρ σ → ρ[i]? = some (some d) → ∃ v, σ[i]? = some (some v) ∧ Rep K G B d v
  | [], _, _, _, _, e => by simp at e
  | _ :: _, _, 0, d, ⟨x, r, e, h, hr⟩, q => by
    simp at q; subst q
    obtain ⟨v, h1, h2⟩ := h d rfl
    exact ⟨v, by rw [e, h1]; rfl, h2⟩
  | _ :: _, _, i + 1, d, ⟨x, r, e, h, hr⟩, q => by
    obtain ⟨v, h1, h2⟩ := EnvR.get (i := i) hr (by simpa using q)
    exact ⟨v, by rw [e]; simpa using h1, h2⟩
theorem EnvR.set {d : D} {v : V} (hv : Rep K G B d v) : ∀ {ρ : List (Option D)} {σ : L2.St} (i : Nat), EnvR K G B ρ σ → EnvR K G B (ρ.set i (some d)) (σ.set i (some v))
  | [], _, _, h => by rw [show _ = _ from h]; exact rfl
  | _ :: _, _, 0, ⟨x, r, e, h, hr⟩ => ⟨some v, r, by rw [e]; rfl, fun d' q => by cases q; exact ⟨v, rfl, hv⟩, hr⟩
  | _ :: _, _, i + 1, ⟨x, r, e, h, hr⟩ => ⟨x, r.set i (some v), by rw [e]; rfl, h, EnvR.set hv i hr⟩
theorem EnvR.wipe1 : ∀ {ρ : List (Option D)} {σ : L2.St} (i : Nat), EnvR K G B ρ σ → EnvR K G B (ρ.set i none) (σ.set i none)
  | [], _, _, h => by rw [show _ = _ from h]; exact rfl
  | _ :: _, _, 0, ⟨x, r, e, h, hr⟩ => ⟨none, r, by rw [e]; rfl, (fun d' q => by cases q), hr⟩
  | _ :: _, _, i + 1, ⟨x, r, e, h, hr⟩ => ⟨x, r.set i none, by rw [e]; rfl, h, EnvR.wipe1 i hr⟩
theorem EnvR.len : ∀ {ρ : List (Option D)} {σ : L2.St}, EnvR K G B ρ σ → ρ.length = σ.length
  | [], _, h => by rw [show _ = _ from h]; rfl
  | _ :: _, _, ⟨x, r, e, h, hr⟩ => by rw [e, List.length_cons, List.length_cons, EnvR.len hr]
theorem EnvR.of_vals : ∀ {ds : List D} {vs : List V} (n : Nat), RepL K G B ds vs → EnvR K G B (ds.map some ++ List.replicate n none) (vs.map some ++ List.replicate n none)
  | [], _, n, h => by
    rw [show _ = _ from h]
    show EnvR K G B (List.replicate n none) (List.replicate n none)
    induction n with
    | zero => exact rfl
    | succ n ih => exact ⟨none, List.replicate n none, rfl, (fun d q => by cases q), ih⟩
  | d :: _, _, n, ⟨v, r, e, h, hr⟩ => ⟨some v, r.map some ++ List.replicate n none, by rw [e]; rfl, fun d' q => by cases q; exact ⟨v, rfl, h⟩, EnvR.of_vals n hr⟩
end
def wipeD (ρ : List (Option D)) : List Nat → List (Option D)
  | [] => ρ
  | v :: vs => (wipeD ρ vs).set v none
theorem EnvR.wipe {K : PySem.W.Frag} {G : Hp} {B : Int} {ρ : List (Option D)} {σ : L2.St} (h : EnvR K G B ρ σ) : ∀ vs : List Nat, EnvR K G B (wipeD ρ vs) (L2.wipe σ vs)
  | [] => h
  | v :: vs => EnvR.wipe1 v (EnvR.wipe h vs)
def startD (N : List Str) (ds : List D) : List (Option D) := ds.map some ++ List.replicate (N.length - ds.length) none
/-- what is wanted of errors: class, fields, the pens' bound -/
abbrev EW := Addr → Option (List Str × List D) → Int → Prop
def XOk (K : PySem.W.Frag) (E : XK) (e : EW) (G H : Hp) (B : Int) : Prop := ∀ C f B' G' H', e C f B' → Ext G H B G' H' B' →
  match f with
  | none => E (.ref C) none H'
  | some (ns, ds) => ∀ dx vs, H' dx = some (.xd (ns.zip vs)) → ns.length = vs.length → RepL K G' B' ds vs → E (.ref C) (some dx) H'
theorem XOk.ext {K : PySem.W.Frag} {E : XK} {e : EW} {G H G1 H1 : Hp} {B B1 : Int} (x : XOk K E e G H B) (h : Ext G H B G1 H1 B1) : XOk K E e G1 H1 B1 := fun C f B' G' H' q h' => x C f B' G' H' q (h.trans h')
abbrev KD := D → Int → Prop
abbrev KL := List D → Int → Prop
abbrev KE' := List (Option D) → Int → Prop
def KOk (K : PySem.W.Frag) (k : KD) (Q : VK) (G H : Hp) (B : Int) : Prop := ∀ d v B' G' H', k d B' → Ext G H B G' H' B' → Rep K G' B' d v → Q v H'
theorem KOk.ext {K : PySem.W.Frag} {k : KD} {Q : VK} {G H G1 H1 : Hp} {B B1 : Int} (x : KOk K k Q G H B) (h : Ext G H B G1 H1 B1) : KOk K k Q G1 H1 B1 := fun d v B' G' H' q h' => x d v B' G' H' q (h.trans h')
def NOk (K : PySem.W.Frag) (k : KE') (Q : L2.St → Hp → Prop) (G H : Hp) (B : Int) : Prop := ∀ ρ σ B' G' H', k ρ B' → Ext G H B G' H' B' → EnvR K G' B' ρ σ → Q σ H'
theorem NOk.ext {K : PySem.W.Frag} {k : KE'} {Q : L2.St → Hp → Prop} {G H G1 H1 : Hp} {B B1 : Int} (x : NOk K k Q G H B) (h : Ext G H B G1 H1 B1) : NOk K k Q G1 H1 B1 := fun d v B' G' H' q h' => x d v B' G' H' q (h.trans h')
/-- an expression -/
def We (K : PySem.W.Frag) (E : XK) (e : EW) (t : TE) (ρ : List (Option D)) (B : Int) (k : KD) : Prop := ∀ σ H G Q, Sub G H → EnvR K G B ρ σ → XOk K E e G H B → KOk K k Q G H B → t σ H Q
/-- a test -/
def Wt (K : PySem.W.Frag) (E : XK) (e : EW) (t : TT) (ρ : List (Option D)) (B : Int) (k : Bool → Int → Prop) : Prop := ∀ σ H G (Q : Bool → Hp → Prop), Sub G H → EnvR K G B ρ σ → XOk K E e G H B → (∀ b B' G' H', k b B' → Ext G H B G' H' B' → Q b H') → t σ H Q
/-- arguments -/
def Wa (K : PySem.W.Frag) (E : XK) (e : EW) (t : TA) (ρ : List (Option D)) (B : Int) (k : KL) : Prop := ∀ σ H G (Q : List V → Hp → Prop), Sub G H → EnvR K G B ρ σ → XOk K E e G H B → (∀ ds vs B' G' H', k ds B' → Ext G H B G' H' B' → RepL K G' B' ds vs → Q vs H') → t σ H Q
structure KS where
  nx : KE' := fun _ _ => False
  rt : KD
  bk : KE' := fun _ _ => False
  ct : KE' := fun _ _ => False
structure EndsOk (K : PySem.W.Frag) (κ : KS) (Dn : Ends) (G H : Hp) (B : Int) : Prop where
  nx : NOk K κ.nx Dn.nx G H B
  rt : KOk K κ.rt Dn.rt G H B
  bk : NOk K κ.bk Dn.bk G H B
  ct : NOk K κ.ct Dn.ct G H B
theorem EndsOk.ext {K : PySem.W.Frag} {κ : KS} {Dn : Ends} {G H G1 H1 : Hp} {B B1 : Int} (x : EndsOk K κ Dn G H B) (h : Ext G H B G1 H1 B1) : EndsOk K κ Dn G1 H1 B1 := ⟨x.nx.ext h, x.rt.ext h, x.bk.ext h, x.ct.ext h⟩
/-- a statement -/
def Ws (K : PySem.W.Frag) (E : XK) (e : EW) (t : TS) (ρ : List (Option D)) (B : Int) (κ : KS) : Prop := ∀ σ H G Dn, Sub G H → EnvR K G B ρ σ → XOk K E e G H B → EndsOk K κ Dn G H B → t Dn σ H
/-- a target -/
def Wg (K : PySem.W.Frag) (g : TG) (d : D) (ρ : List (Option D)) (B : Int) (k : KE') : Prop := ∀ v σ H G Q, Sub G H → EnvR K G B ρ σ → Rep K G B d v → NOk K k Q G H B → g v σ H Q
def Wgs (K : PySem.W.Frag) (g : TGs) (ds : List D) (ρ : List (Option D)) (B : Int) (k : KE') : Prop := ∀ vs σ H G Q, Sub G H → EnvR K G B ρ σ → RepL K G B ds vs → NOk K k Q G H B → g vs σ H Q
section
variable {K : PySem.W.Frag} {E : XK} {e : EW} {ρ : List (Option D)} {B : Int} {k : KD} {κ : KS} {ta tb : TE} {t : TA}
theorem We.at {t : TE} {d : D} (h : ∀ σ H G, Sub G H → EnvR K G B ρ σ → ∃ v, Rep K G B d v ∧ ∀ Q : VK, Q v H → t σ H Q) (hk : k d B) : We K E e t ρ B k := fun σ H G Q s en x q => by
  obtain ⟨v, r, f⟩ := h σ H G s en
  exact f Q (q d v B G H hk (Ext.refl s) r)
theorem we_var {i : Nat} {d : D} (h : ρ[i]? = some (some d)) (hk : k d B) : We K E e (tVar i) ρ B k :=
  We.at (fun σ H G s en => let ⟨v, h1, h2⟩ := en.get h; ⟨v, h2, fun Q q => ⟨v, h1, q⟩⟩) hk
theorem we_int {i : Int} (hk : k (.int i) B) : We K E e (tC (.int i)) ρ B k := We.at (d := (.int i)) (fun σ H G s en => ⟨.int i, rfl, fun Q q => q⟩) hk
theorem we_bl {i : Bool} (hk : k (.bl i) B) : We K E e (tC (.bl i)) ρ B k := We.at (d := (.bl i)) (fun σ H G s en => ⟨.bl i, rfl, fun Q q => q⟩) hk
theorem we_str {i : Str} (hk : k (.str i) B) : We K E e (tC (.str i)) ρ B k := We.at (d := (.str i)) (fun σ H G s en => ⟨.str i, rfl, fun Q q => q⟩) hk
theorem we_non (hk : k .non B) : We K E e (tC .non) ρ B k := We.at (d := .non) (fun σ H G s en => ⟨.non, rfl, fun Q q => q⟩) hk
theorem We.imp {t : TE} {k' : KD} (h : We K E e t ρ B k) (f : ∀ d B', k d B' → k' d B') : We K E e t ρ B k' := fun σ H G Q s en x q => h σ H G Q s en x fun d v B' G' H' hk => q d v B' G' H' (f d B' hk)
/-- two values -/
def Ro (K : PySem.W.Frag) (E : XK) (e : EW) (r : R2) (a b : D) (B : Int) (k : KD) : Prop := ∀ x y H G Q, Sub G H → Rep K G B a x → Rep K G B b y → XOk K E e G H B → KOk K k Q G H B → r x y H Q
theorem we_op {r : R2} (h : We K E e ta ρ B fun a B1 => We K E e tb ρ B1 fun b B2 => Ro K E e r a b B2 k) : We K E e (tOp r ta tb) ρ B k := fun σ H G Q s en x q =>
  h σ H G _ s en x fun a v B1 G1 H1 h1 e1 r1 => h1 σ H1 G1 _ e1.sub (en.mono e1.le) (x.ext e1) fun b u B2 G2 H2 h2 e2 r2 =>
    h2 v u H2 G2 Q e2.sub (r1.mono e2.le) r2 (x.ext (e1.trans e2)) (q.ext (e1.trans e2))
theorem ro_i0 {f : Int → Int → Int} {i j : Int} (h : k (.int (f i j)) B) : Ro K E e (rI0 fun i j => V.int (f i j)) (.int i) (.int j) B k := fun x y H G Q s r1 r2 _ q =>
  ⟨i, j, r1, r2, q _ _ _ _ _ h (Ext.refl s) rfl⟩
theorem ro_b0 {f : Int → Int → Bool} {i j : Int} (h : k (.bl (f i j)) B) : Ro K E e (rI0 fun i j => V.bl (f i j)) (.int i) (.int j) B k := fun x y H G Q s r1 r2 _ q =>
  ⟨i, j, r1, r2, q _ _ _ _ _ h (Ext.refl s) rfl⟩
theorem ro_i {f : Int → Int → Int} {C : Int → Int → Prop} {i j : Int} (c : C i j) (h : k (.int (f i j)) B) : Ro K E e (rI C fun i j => V.int (f i j)) (.int i) (.int j) B k := fun x y H G Q s r1 r2 _ q =>
  ⟨i, j, r1, r2, c, q _ _ _ _ _ h (Ext.refl s) rfl⟩
theorem we_un {r : V → Hp → VK → Prop} (h : We K E e ta ρ B fun a B1 => ∀ x H G Q, Sub G H → Rep K G B1 a x → XOk K E e G H B1 → KOk K k Q G H B1 → r x H Q) : We K E e (tUn r ta) ρ B k := fun σ H G Q s en x q =>
  h σ H G _ s en x fun a v B1 G1 H1 h1 e1 r1 => h1 v H1 G1 Q e1.sub r1 (x.ext e1) (q.ext e1)
theorem we_neg {f : Int → Int} (h : We K E e ta ρ B fun a B1 => ∃ i, a = .int i ∧ k (.int (f i)) B1) : We K E e (tUn (rU fun i => V.int (f i)) ta) ρ B k :=
  we_un (h.imp fun a B1 ⟨i, ea, hk⟩ x H G Q s r xo q => by
    subst ea
    exact ⟨i, r, q _ _ _ _ _ hk (Ext.refl s) rfl⟩)
theorem wa_nil {k : KL} (h : k [] B) : Wa K E e tNil ρ B k := fun σ H G Q s en x q => q _ _ _ _ _ h (Ext.refl s) rfl
theorem wa_cons {k : KL} (h : We K E e ta ρ B fun a B1 => Wa K E e t ρ B1 fun ds B2 => k (a :: ds) B2) : Wa K E e (tCons ta t) ρ B k := fun σ H G Q s en x q =>
  h σ H G _ s en x fun a v B1 G1 H1 h1 e1 r1 => h1 σ H1 G1 _ e1.sub (en.mono e1.le) (x.ext e1) fun ds vs B2 G2 H2 h2 e2 r2 => q _ _ _ _ _ h2 (e1.trans e2) ⟨v, vs, rfl, r1.mono e2.le, r2⟩
theorem we_tup (h : Wa K E e t ρ B fun ds B1 => ds.length ≤ sizeLine ∧ k (.tup ds) B1) : We K E e (tTup t) ρ B k := fun σ H G Q s en x q =>
  h σ H G _ s en x fun ds vs B1 G1 H1 ⟨h0, h1⟩ e1 r1 => ⟨by rw [← r1.length]; exact h0, fun p np => q _ _ _ _ _ h1 (e1.trans (Ext.new e1.sub np)) ⟨p, vs, rfl, SqT.of upd_same, r1.mono (Ext.new (B := B1) e1.sub np).le⟩⟩
theorem we_lst (h : Wa K E e t ρ B fun ds B1 => ds.length ≤ sizeLine ∧ k (.lst ds) B1) : We K E e (tLst t) ρ B k := fun σ H G Q s en x q =>
  h σ H G _ s en x fun ds vs B1 G1 H1 ⟨h0, h1⟩ e1 r1 => ⟨by rw [← r1.length]; exact h0, fun p np => q _ _ _ _ _ h1 (e1.trans (Ext.new e1.sub np)) ⟨p, vs, rfl, upd_same, r1.mono (Ext.new (B := B1) e1.sub np).le⟩⟩
theorem we_fld {f : Str} (h : We K E e ta ρ B fun d B1 => ∃ C ns ds d', d = .ins C ns ds ∧ Cls K C ∧ NoAttr K C f ∧ (ns.zip ds).lookup f = some d' ∧ k d' B1) : We K E e (tFld K ta f) ρ B k := fun σ H G Q s en x q =>
  h σ H G _ s en x fun d v B1 G1 H1 ⟨C, ns, ds, d', ed, c, n, l, h1⟩ e1 r1 => by
    subst ed
    obtain ⟨a, dx, vs, rfl, ha, hl, hr⟩ := r1
    have z : ∀ (ns : List Str) (ds : List D) (vs : List V), RepL K G1 B1 ds vs → (ns.zip ds).lookup f = some d' → ∃ v, (ns.zip vs).lookup f = some v ∧ Rep K G1 B1 d' v := by
      intro ns
      induction ns with
      | nil => intro ds vs _ h; simp at h
      | cons n r ih =>
        intro ds vs hr h
        cases ds with
        | nil => simp at h
        | cons d0 ds =>
          obtain ⟨v0, vr, rfl, h0, h1⟩ := hr
          rw [List.zip_cons_cons, List.lookup_cons] at h ⊢
          cases hq : (f == n) with
          | true => rw [hq] at h; exact ⟨v0, rfl, by cases h; exact h0⟩
          | false => rw [hq] at h; exact ih ds vr h1 h
    obtain ⟨v, lv, rv⟩ := z ns ds vs hr l
    exact ⟨a, C, dx, _, v, rfl, e1.sub _ _ ha, c, n, lv, q _ _ _ _ _ h1 e1 rv⟩
theorem we_ifE {c : TT} (h : Wt K E e c ρ B fun b B1 => (b = true → We K E e ta ρ B1 k) ∧ (b = false → We K E e tb ρ B1 k)) : We K E e (tIf c ta tb) ρ B k := fun σ H G Q s en x q =>
  h σ H G _ s en x fun b B1 G1 H1 h1 e1 => by
    cases b with
    | true => exact h1.1 rfl σ H1 G1 Q e1.sub (en.mono e1.le) (x.ext e1) (q.ext e1)
    | false => exact h1.2 rfl σ H1 G1 Q e1.sub (en.mono e1.le) (x.ext e1) (q.ext e1)
theorem we_and (h : We K E e ta ρ B fun d B1 => ∃ b, d = .bl b ∧ (b = true → We K E e tb ρ B1 k) ∧ (b = false → k (.bl false) B1)) : We K E e (tAndV ta tb) ρ B k := fun σ H G Q s en x q =>
  h σ H G _ s en x fun d v B1 G1 H1 ⟨b, ed, h1, h2⟩ e1 r1 => by
    subst ed
    refine ⟨b, r1, ?_⟩
    cases b with
    | true => exact h1 rfl σ H1 G1 Q e1.sub (en.mono e1.le) (x.ext e1) (q.ext e1)
    | false => exact q _ _ _ _ _ (h2 rfl) e1 rfl
theorem we_or (h : We K E e ta ρ B fun d B1 => ∃ b, d = .bl b ∧ (b = true → k (.bl true) B1) ∧ (b = false → We K E e tb ρ B1 k)) : We K E e (tOrV ta tb) ρ B k := fun σ H G Q s en x q =>
  h σ H G _ s en x fun d v B1 G1 H1 ⟨b, ed, h1, h2⟩ e1 r1 => by
    subst ed
    refine ⟨b, r1, ?_⟩
    cases b with
    | true => exact q _ _ _ _ _ (h1 rfl) e1 rfl
    | false => exact h2 rfl σ H1 G1 Q e1.sub (en.mono e1.le) (x.ext e1) (q.ext e1)
def isNon : D → Bool
  | .non => true
  | .val v => decide (v = .non)
  | .at_ _ d => isNon d
  | .tb d => isNon d
  | _ => false
theorem Rep.isNon {G : Hp} {B : Int} : ∀ {d : D} {v : V}, Rep K G B d v → decide (v = V.non) = isNon d
  | .non, _, h => by rw [show _ = _ from h]; rfl
  | .bl _, _, h => by rw [show _ = _ from h]; rfl
  | .int _, _, h => by rw [show _ = _ from h]; rfl
  | .str _, _, h => by rw [show _ = _ from h]; rfl
  | .tup _, _, ⟨a, vs, e, _⟩ => by rw [e]; rfl
  | .lst _, _, ⟨a, vs, e, _⟩ => by rw [e]; rfl
  | .ins _ _ _, _, ⟨a, dx, vs, e, _⟩ => by rw [e]; rfl
  | .pen _ _, _, ⟨_, a, _, _, _, _, e, _⟩ => by rw [e]; rfl
  | .scr _, _, ⟨_, a, e, _⟩ => by rw [e]; rfl
  | .lam _ _, _, ⟨f, d, e, _⟩ => by rw [e]; rfl
  | .at_ _ d, _, ⟨_, h⟩ => Rep.isNon (d := d) h
  | .tb d, _, ⟨_, h⟩ => Rep.isNon (d := d) h
  | .edk, _, ⟨a, e, _⟩ => by rw [e]; rfl
  | .kt _, _, ⟨a, e, _⟩ => by rw [e]; rfl
  | .dt _ _ _, _, ⟨a, vs, e, _⟩ => by rw [e]; rfl
  | .dk _ _, _, ⟨a, vs, e, _⟩ => by rw [e]; rfl
  | .val _, _, h => by rw [show _ = _ from h]; rfl
theorem we_isN (h : We K E e ta ρ B fun d B1 => k (.bl (isNon d)) B1) : We K E e (tIsN ta) ρ B k := fun σ H G Q s en x q =>
  h σ H G _ s en x fun d v B1 G1 H1 h1 e1 r1 => by
    rw [r1.isNon]
    exact q _ _ _ _ _ h1 e1 rfl
theorem we_notN (h : We K E e ta ρ B fun d B1 => k (.bl (!isNon d)) B1) : We K E e (tNotN ta) ρ B k := fun σ H G Q s en x q =>
  h σ H G _ s en x fun d v B1 G1 H1 h1 e1 r1 => by
    rw [r1.isNon]
    exact q _ _ _ _ _ h1 e1 rfl
variable {kb : Bool → Int → Prop} {c d : TT}
theorem wt_val (h : We K E e ta ρ B fun d B1 => ∃ b, d = .bl b ∧ kb b B1) : Wt K E e (tB ta) ρ B kb := fun σ H G Q s en x q =>
  h σ H G _ s en x fun d v B1 G1 H1 ⟨b, ed, h1⟩ e1 r1 => by
    subst ed
    exact ⟨b, r1, q _ _ _ _ h1 e1⟩
theorem wt_test (h : We K E e ta ρ B fun d B1 => ∃ b, d = .bl b ∧ kb b B1) : Wt K E e (tTest ta) ρ B kb := fun σ H G Q s en x q =>
  h σ H G _ s en x fun d v B1 G1 H1 ⟨b, ed, h1⟩ e1 r1 => by
    subst ed
    exact ⟨b, r1, q _ _ _ _ h1 e1⟩
theorem wt_not (h : Wt K E e c ρ B fun b B1 => kb (!b) B1) : Wt K E e (tNot c) ρ B kb := fun σ H G Q s en x q =>
  h σ H G _ s en x fun b B1 G1 H1 h1 e1 => q _ _ _ _ h1 e1
theorem wt_and (h : Wt K E e c ρ B fun b B1 => (b = true → Wt K E e d ρ B1 kb) ∧ (b = false → kb false B1)) : Wt K E e (tAnd c d) ρ B kb := fun σ H G Q s en x q =>
  h σ H G _ s en x fun b B1 G1 H1 h1 e1 => by
    cases b with
    | true => exact h1.1 rfl σ H1 G1 Q e1.sub (en.mono e1.le) (x.ext e1) fun b B2 G2 H2 h2 e2 => q _ _ _ _ h2 (e1.trans e2)
    | false => exact q _ _ _ _ (h1.2 rfl) e1
theorem wt_or (h : Wt K E e c ρ B fun b B1 => (b = true → kb true B1) ∧ (b = false → Wt K E e d ρ B1 kb)) : Wt K E e (tOr c d) ρ B kb := fun σ H G Q s en x q =>
  h σ H G _ s en x fun b B1 G1 H1 h1 e1 => by
    cases b with
    | true => exact q _ _ _ _ (h1.1 rfl) e1
    | false => exact h1.2 rfl σ H1 G1 Q e1.sub (en.mono e1.le) (x.ext e1) fun b B2 G2 H2 h2 e2 => q _ _ _ _ h2 (e1.trans e2)
variable {ts us : TS}
theorem ws_ret (h : We K E e ta ρ B κ.rt) : Ws K E e (tRet ta) ρ B κ := fun σ H G Dn s en x q => h σ H G _ s en x q.rt
theorem ws_next (h : κ.nx ρ B) : Ws K E e tNext ρ B κ := fun σ H G Dn s en x q => q.nx _ _ _ _ _ h (Ext.refl s) en
theorem ws_cont (h : κ.ct ρ B) : Ws K E e tCont ρ B κ := fun σ H G Dn s en x q => q.ct _ _ _ _ _ h (Ext.refl s) en
theorem ws_seq (h : Ws K E e ts ρ B { κ with nx := fun ρ' B' => Ws K E e us ρ' B' κ }) : Ws K E e (tSeq ts us) ρ B κ := fun σ H G Dn s en x q =>
  h σ H G _ s en x ⟨fun ρ' σ' B' G' H' h1 e1 en1 => h1 σ' H' G' Dn e1.sub en1 (x.ext e1) (q.ext e1), q.rt, q.bk, q.ct⟩
theorem ws_drop (h : We K E e ta ρ B fun _ B1 => κ.nx ρ B1) : Ws K E e (tDrop ta) ρ B κ := fun σ H G Dn s en x q =>
  h σ H G _ s en x fun d v B1 G1 H1 h1 e1 r1 => q.nx _ _ _ _ _ h1 e1 (en.mono e1.le)
theorem ws_if (h : Wt K E e c ρ B fun b B1 => (b = true → Ws K E e ts ρ B1 κ) ∧ (b = false → Ws K E e us ρ B1 κ)) : Ws K E e (tIfS c ts us) ρ B κ := fun σ H G Dn s en x q =>
  h σ H G _ s en x fun b B1 G1 H1 h1 e1 => by
    cases b with
    | true => exact h1.1 rfl σ H1 G1 Dn e1.sub (en.mono e1.le) (x.ext e1) (q.ext e1)
    | false => exact h1.2 rfl σ H1 G1 Dn e1.sub (en.mono e1.le) (x.ext e1) (q.ext e1)
theorem ws_set {i : Nat} (h : We K E e ta ρ B fun d B1 => κ.nx (ρ.set i (some d)) B1) : Ws K E e (tAsg ta (gName i)) ρ B κ := fun σ H G Dn s en x q =>
  h σ H G _ s en x fun d v B1 G1 H1 h1 e1 r1 => q.nx _ _ _ _ _ h1 e1 (EnvR.set r1 i (en.mono e1.le))
theorem ws_asg {g : TG} (h : We K E e ta ρ B fun d B1 => Wg K g d ρ B1 κ.nx) : Ws K E e (tAsg ta g) ρ B κ := fun σ H G Dn s en x q =>
  h σ H G _ s en x fun d v B1 G1 H1 h1 e1 r1 => h1 v σ H1 G1 _ e1.sub (en.mono e1.le) r1 (q.nx.ext e1)
theorem ws_par {i j : Nat} (h : Wa K E e t ρ B fun ds B1 => ∃ a b, ds = [a, b] ∧ κ.nx ((ρ.set i (some a)).set j (some b)) B1) : Ws K E e (tPar i j t) ρ B κ := fun σ H G Dn s en x q =>
  h σ H G _ s en x fun ds vs B1 G1 H1 ⟨a, b, ed, h1⟩ e1 r1 => by
    subst ed
    obtain ⟨v, _, rfl, ra, u, _, rfl, rb, rfl⟩ := r1
    exact ⟨v, u, rfl, q.nx _ _ _ _ _ h1 e1 (EnvR.set rb j (EnvR.set ra i (en.mono e1.le)))⟩
theorem ws_par3 {i j l : Nat} (h : Wa K E e t ρ B fun ds B1 => ∃ a b c, ds = [a, b, c] ∧ κ.nx (((ρ.set i (some a)).set j (some b)).set l (some c)) B1) : Ws K E e (L2.tPar3 i j l t) ρ B κ := fun σ H G Dn s en x q =>
  h σ H G _ s en x fun ds vs B1 G1 H1 ⟨a, b, c, ed, h1⟩ e1 r1 => by
    subst ed
    obtain ⟨v, _, rfl, ra, u, _, rfl, rb, w, _, rfl, rc, rfl⟩ := r1
    exact ⟨v, u, w, rfl, q.nx _ _ _ _ _ h1 e1 (EnvR.set rc l (EnvR.set rb j (EnvR.set ra i (en.mono e1.le))))⟩
theorem wg_name {i : Nat} {d : D} {k : KE'} (h : k (ρ.set i (some d)) B) : Wg K (gName i) d ρ B k := fun v σ H G Q s en r q => q _ _ _ _ _ h (Ext.refl s) (EnvR.set r i en)
theorem wgs_nil {k : KE'} (h : k ρ B) : Wgs K gNil [] ρ B k := fun vs σ H G Q s en r q => ⟨r, q _ _ _ _ _ h (Ext.refl s) en⟩
theorem wgs_cons {g : TG} {gs : TGs} {d : D} {ds : List D} {k : KE'} (h : Wg K g d ρ B fun ρ1 B1 => Wgs K gs ds ρ1 B1 k) : Wgs K (gCons g gs) (d :: ds) ρ B k := fun vs σ H G Q s en r q => by
  obtain ⟨v, w, rfl, r1, r2⟩ := r
  exact ⟨v, w, rfl, h v σ H G _ s en r1 fun ρ1 σ1 B1 G1 H1 h1 e1 en1 => h1 w σ1 H1 G1 Q e1.sub en1 (r2.mono e1.le) (q.ext e1)⟩
theorem wg_tup {n : Nat} {gs : TGs} {ds : List D} {k : KE'} (hn : ds.length = n) (h : Wgs K gs ds ρ B k) : Wg K (gTup K n gs) (.tup ds) ρ B k := fun v σ H G Q s en r q => by
  obtain ⟨a, vs, rfl, ha, hr⟩ := r
  exact ⟨a, vs, rfl, (Le.of_sub (B := B) (B' := B) s (Int.le_refl _)).seqT ha, by rw [← hr.length]; exact hn, h vs σ H G Q s en hr q⟩
end
end AW

set_option linter.all false
set_option maxRecDepth 100000
set_option maxHeartbeats 4000000
namespace AW
open PySem PySem.Spec PyProof.Rows L2
variable [Tbs]
abbrev Pr := List D → Int → KD → EW → Prop
def noE : EW := fun _ _ _ => False
def spD (K : PySem.W.Frag) (pr : Pr) : Sp := fun vs H Q E => ∃ G ds B k e, Sub G H ∧ RepL K G B ds vs ∧ pr ds B k e ∧ KOk K k Q G H B ∧ XOk K E e G H B
theorem XOk.no {K : PySem.W.Frag} {E : XK} {G H : Hp} {B : Int} : XOk K E noE G H B := fun _ _ _ _ _ h => h.elim
theorem spD_len {K : PySem.W.Frag} {pr : Pr} {n : Nat} (h : ∀ ds B k e, pr ds B k e → ds.length = n) : ∀ vs H Q E, spD K pr vs H Q E → vs.length = n := fun vs H Q E ⟨G, ds, B, k, e, _, r, p, _⟩ => by
  rw [← r.length]
  exact h _ _ _ _ p
section
variable {K : PySem.W.Frag} {E E' : XK} {e : EW} {ρ : List (Option D)} {B : Int} {k : KD} {κ : KS} {ta tb : TE} {t : TA} {pr : Pr}
theorem we_call (h : Wa K E e t ρ B fun ds B1 => pr ds B1 k noE) : We K E e (tCall (spD K pr) [] E' t) ρ B k := fun σ H G Q s en x q =>
  h σ H G _ s en x fun ds vs B1 G1 H1 h1 e1 r1 => by
    show spD K pr (vs ++ []) H1 Q E'
    rw [List.append_nil]
    exact ⟨G1, ds, B1, k, noE, e1.sub, r1, h1, q.ext e1, XOk.no⟩
theorem we_callE (h : Wa K E e t ρ B fun ds B1 => pr ds B1 k e) : We K E e (tCall (spD K pr) [] E t) ρ B k := fun σ H G Q s en x q =>
  h σ H G _ s en x fun ds vs B1 G1 H1 h1 e1 r1 => by
    show spD K pr (vs ++ []) H1 Q E
    rw [List.append_nil]
    exact ⟨G1, ds, B1, k, e, e1.sub, r1, h1, q.ext e1, x.ext e1⟩
theorem lookup_zip_none {m : Str} : ∀ {ns : List Str} {vs : List V}, (∀ n ∈ ns, (m == n) = false) → (ns.zip vs).lookup m = none
  | [], _, _ => by simp
  | n :: ns, [], _ => by simp
  | n :: ns, v :: vs, h => by
    rw [List.zip_cons_cons, List.lookup_cons, h n (List.mem_cons_self ..)]
    exact lookup_zip_none fun q hq => h q (List.mem_cons_of_mem _ hq)
theorem we_meth {C : Addr} {m : Str} (h : We K E e ta ρ B fun d B1 => ∃ ns fs, d = .ins C ns fs ∧ (∀ n ∈ ns, (m == n) = false) ∧ Wa K E e t ρ B1 fun ds B2 => pr (d :: ds) B2 k noE) : We K E e (tMeth C m (spD K pr) [] E' ta t) ρ B k := fun σ H G Q s en x q =>
  h σ H G _ s en x fun d v B1 G1 H1 ⟨ns, fs, ed, nm, h1⟩ e1 r1 => by
    subst ed
    obtain ⟨a, dx, vs, rfl, ha, hl, hr⟩ := id r1
    refine ⟨a, dx, _, rfl, e1.sub _ _ ha, lookup_zip_none nm, ?_⟩
    refine h1 σ H1 G1 _ e1.sub (en.mono e1.le) (x.ext e1) fun ds ws B2 G2 H2 h2 e2 r2 => ?_
    show spD K pr (.ref a :: (ws ++ [])) H2 Q E'
    rw [List.append_nil]
    exact ⟨G2, .ins C ns fs :: ds, B2, k, noE, e2.sub, ⟨_, _, rfl, r1.mono e2.le, r2⟩, h2, (q.ext e1).ext e2, XOk.no⟩
/-- the body runs -/
theorem run_body {N : List Str} {ts : TS} {G H : Hp} {ds : List D} {vs : List V} {Q : VK} (hs : Sub G H) (hr : RepL K G B ds vs) (hk : KOk K k Q G H B) (hx : XOk K E e G H B) (hN : startD N ds = ρ) (h : Ws K E e ts ρ B { nx := fun _ B' => k .non B', rt := k }) :
    ts { nx := fun _ H' => Q .non H', rt := Q } (L2.start N vs) H := by
  subst hN
  refine h _ H G _ hs ?_ hx ⟨fun ρ' σ' B' G' H' h1 e1 _ => hk _ _ _ _ _ h1 e1 rfl, hk, fun _ _ _ _ _ h => h.elim, fun _ _ _ _ _ h => h.elim⟩
  unfold startD L2.start
  rw [hr.length]
  exact EnvR.of_vals _ hr
/-- an __init__'s promise: from the arguments, the fields -/
def spI (K : PySem.W.Frag) (C : Addr) (ns : List Str) (pr : List D → Int → (List D → Int → Prop) → EW → Prop) : Sp := fun vs H Q E => ∃ p dx ws G ds B k e, vs = .ref p :: ws ∧ H p = some (.ins C dx []) ∧ G p = none ∧ G dx = none ∧ dx ≠ p ∧ H dx = some (.own p) ∧
  Sub G H ∧ RepL K G B ds ws ∧ pr ds B k e ∧
  (∀ fs us B' G' H', k fs B' → Le G B G' B' → Sub G' H' → (∀ a o, H a = some o → G a = none → a ≠ p → NTb o → H' a = some o ∧ G' a = none) → G' p = none → H' p = some (.ins C dx (ns.zip us)) → ns.length = us.length → RepL K G' B' fs us → Q .non H') ∧
  XOk K E e G H B
theorem we_make {C : Addr} {ns : List Str} {pi : List D → Int → (List D → Int → Prop) → EW → Prop} (h : Wa K E e t ρ B fun ds B1 => pi ds B1 (fun fs B2 => k (.ins C ns fs) B2) noE) : We K E e (tMake C (spI K C ns pi) [] E' t) ρ B k := fun σ H G Q s en x q =>
  h σ H G _ s en x fun ds vs B1 G1 H1 h1 e1 r1 => by
    show ∀ p dx, H1 p = none → H1 dx = none → dx ≠ p → _
    intro p dx np nd ne
    rw [List.append_nil]
    have gp : G1 p = none := by
      cases z : G1 p with
      | none => rfl
      | some u => rw [e1.sub _ _ z] at np; cases np
    have gd : G1 dx = none := by
      cases z : G1 dx with
      | none => rfl
      | some u => rw [e1.sub _ _ z] at nd; cases nd
    refine ⟨p, dx, vs, G1, ds, B1, _, noE, rfl, upd_same, gp, gd, ne, by rw [upd_ne ne, upd_same], fun a o z => ?_, r1, h1, fun fs us B2 G2 H2 hk le sub fr g2 h2 hl hr => ⟨rfl, ?_⟩, XOk.no⟩
    · have := e1.sub _ _ z
      rw [upd_ne (ne_of_none this np), upd_ne (ne_of_none this nd)]
      exact this
    · have e2 : Ext G H B (upd G2 p (.ins C dx (ns.zip us))) H2 B2 := by
        refine ⟨(e1.le.trans le).trans (Le.of_sub (fun a o z => by rw [upd_ne (ne_of_none z g2)]; exact z) (Int.le_refl _)), fun a o z => ?_, fun a o z n t => ?_⟩
        · by_cases hq : a = p
          · subst hq; rw [upd_same] at z; cases z; exact h2
          · rw [upd_ne hq] at z; exact sub _ _ z
        · obtain ⟨z1, z2⟩ := e1.fr a o z n t
          have hq : a ≠ p := ne_of_none z1 np
          obtain ⟨z3, z4⟩ := fr a o (by rw [upd_ne hq, upd_ne (ne_of_none z1 nd)]; exact z1) z2 hq t
          exact ⟨z3, by rw [upd_ne hq]; exact z4⟩
      exact q _ _ _ _ _ hk e2 ⟨p, dx, us, rfl, upd_same, hl, hr.mono (Le.of_sub (fun a o z => by rw [upd_ne (ne_of_none z g2)]; exact z) (Int.le_refl _))⟩
theorem ro_eqI {i j : Int} (h : k (.bl (decide (i = j))) B) : Ro K E e rEq (.int i) (.int j) B k := fun x y H G Q s r1 r2 _ q => by
  rw [show x = _ from r1, show y = _ from r2]
  have e1 : decide (V.int i = V.int j) = decide (i = j) := by
    by_cases z : i = j
    · subst z; simp
    · rw [decide_eq_false z, decide_eq_false fun w => z (V.int.inj w)]
  refine ⟨rfl, ?_⟩
  rw [e1]
  exact q _ _ _ _ _ h (Ext.refl s) rfl
theorem ro_neI {i j : Int} (h : k (.bl (!decide (i = j))) B) : Ro K E e rNe (.int i) (.int j) B k := fun x y H G Q s r1 r2 _ q => by
  rw [show x = _ from r1, show y = _ from r2]
  have e1 : decide (V.int i = V.int j) = decide (i = j) := by
    by_cases z : i = j
    · subst z; simp
    · rw [decide_eq_false z, decide_eq_false fun w => z (V.int.inj w)]
  refine ⟨rfl, ?_⟩
  rw [e1]
  exact q _ _ _ _ _ h (Ext.refl s) rfl
theorem ro_eqS {i j : Str} (h : k (.bl (decide (i = j))) B) : Ro K E e rEq (.str i) (.str j) B k := fun x y H G Q s r1 r2 _ q => by
  rw [show x = _ from r1, show y = _ from r2]
  have e1 : decide (V.str i = V.str j) = decide (i = j) := by
    by_cases z : i = j
    · subst z; simp
    · rw [decide_eq_false z, decide_eq_false fun w => z (V.str.inj w)]
  refine ⟨rfl, ?_⟩
  rw [e1]
  exact q _ _ _ _ _ h (Ext.refl s) rfl
theorem RepL.ixN {G : Hp} {ds : List D} {vs : List V} {i : Int} {d : D} (r : RepL K G B ds vs) (h : atI ds i = some d) : ∃ v, atI vs i = some v ∧ Rep K G B d v := by
  unfold atI at h ⊢
  rw [← r.length]
  cases z : L2.ixN ds.length i with
  | none => rw [z] at h; cases h
  | some j =>
    rw [z] at h
    exact r.get h
theorem ro_ixT {ds : List D} {i : Int} {d : D} (h : atI ds i = some d) (hk : k d B) : Ro K E e (rIxT K) (.tup ds) (.int i) B k := fun x y H G Q s r1 r2 _ q => by
  obtain ⟨a, vs, rfl, ha, hr⟩ := r1
  obtain ⟨v, h1, h2⟩ := hr.ixN h
  exact ⟨a, vs, i, v, rfl, r2, (Le.of_sub (B := B) (B' := B) s (Int.le_refl _)).seqT ha, h1, q _ _ _ _ _ hk (Ext.refl s) h2⟩
theorem ro_ixL {ds : List D} {i : Int} {d : D} (h : atI ds i = some d) (hk : k d B) : Ro K E e (rIxL K) (.lst ds) (.int i) B k := fun x y H G Q s r1 r2 _ q => by
  obtain ⟨a, vs, rfl, ha, hr⟩ := r1
  obtain ⟨v, h1, h2⟩ := hr.ixN h
  exact ⟨a, vs, i, v, rfl, r2, SqL.of (s _ _ ha), h1, q _ _ _ _ _ hk (Ext.refl s) h2⟩
theorem we_cb {r : List V → Hp → VK → Prop} (h : Wa K E e t ρ B fun ds B1 => ∀ vs H G Q, Sub G H → RepL K G B1 ds vs → KOk K k Q G H B1 → r vs H Q) : We K E e (tCB r t) ρ B k := fun σ H G Q s en x q =>
  h σ H G _ s en x fun ds vs B1 G1 H1 h1 e1 r1 => h1 vs H1 G1 Q e1.sub r1 (q.ext e1)
theorem cb_fun1 {f : Int → Int} {r : List V → Hp → VK → Prop} (hr : ∀ i H Q, Q (.int (f i)) H → r [.int i] H Q) {ds : List D} (h : ∃ i, ds = [.int i] ∧ k (.int (f i)) B) : ∀ vs H G Q, Sub G H → RepL K G B ds vs → KOk K k Q G H B → r vs H Q := fun vs H G Q s r1 q => by
  obtain ⟨i, rfl, hk⟩ := h
  obtain ⟨v, _, rfl, rv, rfl⟩ := r1
  rw [show v = _ from rv]
  exact hr i H Q (q _ _ _ _ _ hk (Ext.refl s) rfl)
theorem cb_fun2 {f : Int → Int → Int} {r : List V → Hp → VK → Prop} (hr : ∀ i j H Q, Q (.int (f i j)) H → r [.int i, .int j] H Q) {ds : List D} (h : ∃ i j, ds = [.int i, .int j] ∧ k (.int (f i j)) B) : ∀ vs H G Q, Sub G H → RepL K G B ds vs → KOk K k Q G H B → r vs H Q := fun vs H G Q s r1 q => by
  obtain ⟨i, j, rfl, hk⟩ := h
  obtain ⟨v, _, rfl, rv, u, _, rfl, ru, rfl⟩ := r1
  rw [show v = _ from rv, show u = _ from ru]
  exact hr i j H Q (q _ _ _ _ _ hk (Ext.refl s) rfl)
theorem we_abs (h : Wa K E e t ρ B fun ds B1 => ∃ i, ds = [.int i] ∧ k (.int (if i < 0 then -i else i)) B1) : We K E e (tCB (fun xs H Q => ∃ i, xs = [.int i] ∧ Q (.int (if i < 0 then -i else i)) H) t) ρ B k :=
  we_cb fun σ H G Q s en x q => h σ H G Q s en x fun ds vs B1 G1 H1 h1 e1 r1 => q ds vs B1 G1 H1 (cb_fun1 (f := fun i => if i < 0 then -i else i) (fun i H Q q => ⟨i, rfl, q⟩) h1) e1 r1
theorem we_gcd (h : Wa K E e t ρ B fun ds B1 => ∃ i j, ds = [.int i, .int j] ∧ k (.int ((Nat.gcd i.natAbs j.natAbs : Nat) : Int)) B1) : We K E e (tCB rGcd t) ρ B k :=
  we_cb fun σ H G Q s en x q => h σ H G Q s en x fun ds vs B1 G1 H1 h1 e1 r1 => q ds vs B1 G1 H1 (cb_fun2 (f := fun i j => ((Nat.gcd i.natAbs j.natAbs : Nat) : Int)) (fun i j H Q q => ⟨i, j, rfl, q⟩) h1) e1 r1
theorem we_lenL (h : Wa K E e t ρ B fun ds B1 => ∃ xs, ds = [.lst xs] ∧ k (.int xs.length) B1) : We K E e (tCB (fun xs H Q => ∃ p ys, xs = [.ref p] ∧ (SqL K H p ys ∨ SqT K H p ys) ∧ Q (.int ys.length) H) t) ρ B k :=
  we_cb fun σ H G Q s en x q => h σ H G Q s en x fun ds vs B1 G1 H1 ⟨xs, ed, h1⟩ e1 r1 => q ds vs B1 G1 H1 (fun ws H2 G2 Q2 s2 r2 q2 => by
    subst ed
    obtain ⟨v, _, rfl, ⟨a, us, rfl, ha, hr⟩, rfl⟩ := r2
    exact ⟨a, us, rfl, .inl (SqL.of (s2 _ _ ha)), by rw [← hr.length]; exact q2 _ _ _ _ _ h1 (Ext.refl s2) rfl⟩) e1 r1
theorem we_lenT (h : Wa K E e t ρ B fun ds B1 => ∃ xs, ds = [.tup xs] ∧ k (.int xs.length) B1) : We K E e (tCB (fun xs H Q => ∃ p ys, xs = [.ref p] ∧ (SqL K H p ys ∨ SqT K H p ys) ∧ Q (.int ys.length) H) t) ρ B k :=
  we_cb fun σ H G Q s en x q => h σ H G Q s en x fun ds vs B1 G1 H1 ⟨xs, ed, h1⟩ e1 r1 => q ds vs B1 G1 H1 (fun ws H2 G2 Q2 s2 r2 q2 => by
    subst ed
    obtain ⟨v, _, rfl, ⟨a, us, rfl, ha, hr⟩, rfl⟩ := r2
    exact ⟨a, us, rfl, .inr ((Le.of_sub (B := B1) (B' := B1) s2 (Int.le_refl _)).seqT ha), by rw [← hr.length]; exact q2 _ _ _ _ _ h1 (Ext.refl s2) rfl⟩) e1 r1
variable {wi : TI} {g : TG} {tbody : TS} {tl : TE}
theorem ws_for_list (h : We K E e tl ρ B fun d B1 => ∃ ds, d = .lst ds ∧ ∃ I : Nat → KE', I 0 ρ B1 ∧ (∀ i x ρ' B', ds[i]? = some x → I i ρ' B' → Wg K g x ρ' B' fun ρ2 B2 => Ws K E e tbody ρ2 B2 { nx := I (i + 1), rt := κ.rt, bk := κ.nx, ct := I (i + 1) }) ∧ ∀ ρ' B', I ds.length ρ' B' → κ.nx ρ' B') :
    Ws K E e (tFor (iList K tl) g tbody) ρ B κ := fun σ H G Dn s en x q =>
  h σ H G _ s en x fun d v B1 G1 H1 ⟨ds, ed, I, i0, hs, hd⟩ e1 r1 => by
    subst ed
    obtain ⟨a, vs, rfl, ha, hr⟩ := r1
    refine ⟨a, rfl, ⟨vs, SqL.of (e1.sub _ _ ha)⟩, ?_⟩
    refine for_list (xs := vs) (fun i σ' H' => ∃ ρ' B' G', I i ρ' B' ∧ Ext G1 H1 B1 G' H' B' ∧ EnvR K G' B' ρ' σ') ⟨ρ, B1, G1, i0, Ext.refl e1.sub, en.mono e1.le⟩ (fun i σ' H' _ ⟨_, _, G', _, e2, _⟩ => SqL.of (e2.sub _ _ (e2.le.keep _ _ ha nopen_lst))) ?_ ?_
    · rintro i y σ' H' hi ⟨ρ', B', G', hI, e2, en2⟩
      obtain ⟨dx, hdx, rx⟩ := hr.get' hi
      refine hs i dx ρ' B' hdx hI y σ' H' G' _ e2.sub en2 (rx.mono e2.le) fun ρ2 σ2 B2 G2 H2 h2 e3 en3 => ?_
      have eA := e1.trans (e2.trans e3)
      exact h2 σ2 H2 G2 _ e3.sub en3 (x.ext eA) ⟨fun ρ3 σ3 B3 G3 H3 h3 e4 en4 => ⟨ρ3, B3, G3, h3, (e2.trans e3).trans e4, en4⟩, q.rt.ext eA, q.nx.ext eA, fun ρ3 σ3 B3 G3 H3 h3 e4 en4 => ⟨ρ3, B3, G3, h3, (e2.trans e3).trans e4, en4⟩⟩
    · rintro σ' H' ⟨ρ', B', G', hI, e2, en2⟩
      rw [← hr.length] at hI
      exact q.nx _ _ _ _ _ (hd _ _ hI) (e1.trans e2) en2
theorem ws_for_tup (h : We K E e tl ρ B fun d B1 => ∃ ds, d = .tup ds ∧ ∃ I : Nat → KE', I 0 ρ B1 ∧ (∀ i x ρ' B', ds[i]? = some x → I i ρ' B' → Wg K g x ρ' B' fun ρ2 B2 => Ws K E e tbody ρ2 B2 { nx := I (i + 1), rt := κ.rt, bk := κ.nx, ct := I (i + 1) }) ∧ ∀ ρ' B', I ds.length ρ' B' → κ.nx ρ' B') :
    Ws K E e (tFor (iTup K tl) g tbody) ρ B κ := fun σ H G Dn s en x q =>
  h σ H G _ s en x fun d v B1 G1 H1 ⟨ds, ed, I, i0, hs, hd⟩ e1 r1 => by
    subst ed
    obtain ⟨a, vs, rfl, ha, hr⟩ := r1
    refine ⟨a, rfl, ⟨vs, (Le.of_sub (B := B) (B' := B) e1.sub (Int.le_refl _)).seqT ha⟩, ?_⟩
    refine for_tup (xs := vs) (fun i σ' H' => ∃ ρ' B' G', I i ρ' B' ∧ Ext G1 H1 B1 G' H' B' ∧ EnvR K G' B' ρ' σ') ⟨ρ, B1, G1, i0, Ext.refl e1.sub, en.mono e1.le⟩ (fun i σ' H' _ ⟨_, _, G', _, e2, _⟩ => (Le.of_sub (B := B) (B' := B) e2.sub (Int.le_refl _)).seqT (e2.le.seqT ha)) ?_ ?_
    · rintro i y σ' H' hi ⟨ρ', B', G', hI, e2, en2⟩
      obtain ⟨dx, hdx, rx⟩ := hr.get' hi
      refine hs i dx ρ' B' hdx hI y σ' H' G' _ e2.sub en2 (rx.mono e2.le) fun ρ2 σ2 B2 G2 H2 h2 e3 en3 => ?_
      have eA := e1.trans (e2.trans e3)
      exact h2 σ2 H2 G2 _ e3.sub en3 (x.ext eA) ⟨fun ρ3 σ3 B3 G3 H3 h3 e4 en4 => ⟨ρ3, B3, G3, h3, (e2.trans e3).trans e4, en4⟩, q.rt.ext eA, q.nx.ext eA, fun ρ3 σ3 B3 G3 H3 h3 e4 en4 => ⟨ρ3, B3, G3, h3, (e2.trans e3).trans e4, en4⟩⟩
    · rintro σ' H' ⟨ρ', B', G', hI, e2, en2⟩
      rw [← hr.length] at hI
      exact q.nx _ _ _ _ _ (hd _ _ hI) (e1.trans e2) en2
theorem for_range_D {n : Nat} {G H : Hp} {σ : L2.St} {Dn : Ends} (s : Sub G H) (en : EnvR K G B ρ σ) (x : XOk K E e G H B) (q : EndsOk K κ Dn G H B) (I : Nat → KE') (lo : Int) (i0 : I 0 ρ B)
    (hs : ∀ (i : Nat) ρ' B', i < n → I i ρ' B' → Wg K g (.int (lo + i)) ρ' B' fun ρ2 B2 => Ws K E e tbody ρ2 B2 { nx := I (i + 1), rt := κ.rt, bk := κ.nx, ct := I (i + 1) }) (hd : ∀ ρ' B', I n ρ' B' → κ.nx ρ' B') :
    ∃ W : Nat → Nat → L2.St → Hp → Prop, (∃ m, W 0 m σ H) ∧ ∀ i m σ H, W i m σ H →
      ((Itr lo n).stop i H ∧ Dn.nx σ H) ∨ ((Itr lo n).go i H ∧ ∃ N : L2.St → Hp → Prop, (∀ σ' H', N σ' H' → ∃ m', m' < m ∧ W (i + 1) m' σ' H') ∧ ∀ x H', (Itr lo n).yld i H x H' → g x σ H' fun σ2 H2 => tbody { Dn with nx := N, ct := N, bk := Dn.nx } σ2 H2) := by
  refine for_range (fun i σ' H' => ∃ ρ' B' G', I i ρ' B' ∧ Ext G H B G' H' B' ∧ EnvR K G' B' ρ' σ') ⟨ρ, B, G, i0, Ext.refl s, en⟩ ?_ ?_
  · rintro i σ' H' hi ⟨ρ', B', G', hI, e2, en2⟩
    refine hs i ρ' B' hi hI _ σ' H' G' _ e2.sub en2 rfl fun ρ2 σ2 B2 G2 H2 h2 e3 en3 => ?_
    have eA := e2.trans e3
    exact h2 σ2 H2 G2 _ e3.sub en3 (x.ext eA) ⟨fun ρ3 σ3 B3 G3 H3 h3 e4 en4 => ⟨ρ3, B3, G3, h3, (e2.trans e3).trans e4, en4⟩, q.rt.ext eA, q.nx.ext eA, fun ρ3 σ3 B3 G3 H3 h3 e4 en4 => ⟨ρ3, B3, G3, h3, (e2.trans e3).trans e4, en4⟩⟩
  · rintro σ' H' ⟨ρ', B', G', hI, e2, en2⟩
    exact q.nx _ _ _ _ _ (hd _ _ hI) e2 en2
theorem ws_for_range1 (h : Wa K E e t ρ B fun ds B1 => ∃ j : Int, ds = [.int j] ∧ -(2 ^ 62) ≤ j ∧ j < 2 ^ 62 ∧ ∃ I : Nat → KE', I 0 ρ B1 ∧ (∀ (i : Nat) ρ' B', i < j.toNat → I i ρ' B' → Wg K g (.int (0 + i)) ρ' B' fun ρ2 B2 => Ws K E e tbody ρ2 B2 { nx := I (i + 1), rt := κ.rt, bk := κ.nx, ct := I (i + 1) }) ∧ ∀ ρ' B', I j.toNat ρ' B' → κ.nx ρ' B') :
    Ws K E e (tFor (iRng1 t) g tbody) ρ B κ := fun σ H G Dn s en x q =>
  h σ H G _ s en x fun ds vs B1 G1 H1 ⟨j, ed, j0, j1, I, i0, hs, hd⟩ e1 r1 => by
    subst ed
    obtain ⟨v, _, rfl, rv, rfl⟩ := r1
    rw [show v = _ from rv]
    exact ⟨j, rfl, j0, j1, for_range_D e1.sub (en.mono e1.le) (x.ext e1) (q.ext e1) I 0 i0 hs hd⟩
variable {tt : TT} {te : TE} {E1 : XK}
theorem wt_yes {kb : Bool → Int → Prop} (h : kb true B) : Wt K E e tYes ρ B kb := fun σ H G Q s en x q => q _ _ _ _ h (Ext.refl s)
/-- the state of a comprehension whose list stands at L -/
def LcOk (K : PySem.W.Frag) (I : List D → Int → Prop) (L : Addr) (G1 H1 : Hp) (B1 : Int) (H' : Hp) : Prop := ∃ out B' G' acc, I out B' ∧ Ext G1 H1 B1 G' H' B' ∧ G' L = none ∧ H' L = some (.lst acc) ∧ RepL K G' B' out acc
theorem lc_step {I : Nat → List D → Int → Prop} {L : Addr} {G1 H1 : Hp} {B1 : Int} {σ : L2.St} {sl i : Nat} {d : D} {v : V} {H' : Hp} (nL : H1 L = none) (sub1 : Sub G1 H1) (en : EnvR K G1 B1 ρ σ) (h : LcOk K (fun out B => out.length ≤ i ∧ I i out B) L G1 H1 B1 H') (hi : i < sizeLine) (rv : Rep K G1 B1 d v)
    (hs : ∀ out B', I i out B' → Wt K E1 noE tt ((ρ.set sl none).set sl (some d)) B' fun b B3 => (b = true → We K E1 noE te ((ρ.set sl none).set sl (some d)) B3 fun y B4 => I (i + 1) (out ++ [y]) B4) ∧ (b = false → I (i + 1) out B3)) :
    gName sl v (wipe σ [sl]) H' fun σ2 H2 => wipe σ2 [sl] = wipe σ [sl] ∧ tt σ2 H2 fun b H3 => if b = true then te σ2 H3 fun y H4 => ∃ acc, H4 L = some (.lst acc) ∧ acc.length < sizeLine ∧ LcOk K (fun out B => out.length ≤ i + 1 ∧ I (i + 1) out B) L G1 H1 B1 (upd H4 L (.lst (acc ++ [y]))) else LcOk K (fun out B => out.length ≤ i + 1 ∧ I (i + 1) out B) L G1 H1 B1 H3 := by
  obtain ⟨out, B', G', acc, ⟨hl, hI⟩, e2, gL, hL, hr⟩ := h
  refine ⟨?_, ?_⟩
  · show ((σ.set sl none).set sl (some v)).set sl none = σ.set sl none
    rw [List.set_set, List.set_set]
  · have en2 : EnvR K G' B' ((ρ.set sl none).set sl (some d)) ((σ.set sl none).set sl (some v)) := EnvR.set (rv.mono e2.le) sl (EnvR.wipe1 sl (en.mono e2.le))
    refine hs out B' hI _ H' G' _ e2.sub en2 XOk.no fun b B3 G3 H3 h3 e3 => ?_
    cases b with
    | true =>
      rw [if_pos rfl]
      refine h3.1 rfl _ H3 G3 _ e3.sub (en2.mono e3.le) XOk.no fun y w B4 G4 H4 h4 e4 r4 => ?_
      obtain ⟨z1, z2⟩ := (e3.trans e4).fr L _ hL gL ⟨(fun _ z => nomatch z), fun _ z => nomatch z⟩
      refine ⟨acc, z1, by rw [← hr.length]; omega, out ++ [y], B4, G4, acc ++ [w], ⟨by rw [List.length_append, List.length_singleton]; omega, h4⟩, ?_, z2, upd_same, (hr.mono (e3.trans e4).le).append ⟨w, [], rfl, r4, rfl⟩⟩
      have eA := e2.trans (e3.trans e4)
      refine ⟨eA.le, fun a o z => ?_, fun a o z n t => ?_⟩
      · have : a ≠ L := fun q => by rw [q, z2] at z; cases z
        rw [upd_ne this]; exact eA.sub _ _ z
      · have : a ≠ L := ne_of_none z nL
        rw [upd_ne this]
        exact eA.fr _ _ z n t
    | false =>
      rw [if_neg Bool.false_ne_true]
      obtain ⟨z1, z2⟩ := e3.fr L _ hL gL ⟨(fun _ z => nomatch z), fun _ z => nomatch z⟩
      exact ⟨out, B3, G3, acc, ⟨Nat.le_succ_of_le hl, h3.2 rfl⟩, e2.trans e3, z2, z1, hr.mono e3.le⟩
theorem lc_end {I : List D → Int → Prop} {L : Addr} {G H G1 H1 : Hp} {B1 : Int} {Q : VK} {H' : Hp} (e1 : Ext G H B G1 H1 B1) (nL : H1 L = none) (h : LcOk K I L G1 H1 B1 H') (hd : ∀ out B', I out B' → k (.lst out) B') (q : KOk K k Q G H B) : Q (.ref L) H' := by
  obtain ⟨out, B', G', acc, hI, e2, gL, hL, hr⟩ := h
  have le : Le G' B' (upd G' L (.lst acc)) B' := Le.of_sub (fun a o z => by rw [upd_ne (ne_of_none z gL)]; exact z) (Int.le_refl _)
  refine q (.lst out) _ B' (upd G' L (.lst acc)) H' (hd _ _ hI) (e1.trans ⟨e2.le.trans le, fun a o z => ?_, fun a o z n t => ?_⟩) ⟨L, acc, rfl, upd_same, hr.mono le⟩
  · by_cases w : a = L
    · subst w; rw [upd_same] at z; cases z; exact hL
    · rw [upd_ne w] at z; exact e2.sub _ _ z
  · have w : a ≠ L := ne_of_none z nL
    rw [upd_ne w]
    exact e2.fr _ _ z n t
theorem lc_start {I : List D → Int → Prop} {L : Addr} {G1 H1 : Hp} {B1 : Int} (s : Sub G1 H1) (nL : H1 L = none) (h : I [] B1) : LcOk K I L G1 H1 B1 (upd H1 L (.lst [])) := by
  have g : G1 L = none := by
    cases z : G1 L with
    | none => rfl
    | some u => rw [s _ _ z] at nL; cases nL
  exact ⟨[], B1, G1, [], h, Ext.hid s nL, g, upd_same, rfl⟩
theorem LcOk.kept {I : List D → Int → Prop} {L : Addr} {G1 H1 : Hp} {B1 : Int} {H' : Hp} {a : Addr} {o : HO} (h : LcOk K I L G1 H1 B1 H') (ha : G1 a = some o) (n : ¬ IsPen o) : H' a = some o := by
  obtain ⟨out, B', G', acc, hI, e2, gL, hL, hr⟩ := h
  exact e2.sub _ _ (e2.le.keep _ _ ha n)
theorem we_lc_list {sl : Nat} (h : We K E e tl ρ B fun d B1 => ∃ ds, d = .lst ds ∧ ds.length < sizeLine ∧ ∃ I : Nat → List D → Int → Prop, I 0 [] B1 ∧
    (∀ i x out B', ds[i]? = some x → I i out B' → Wt K E1 noE tt ((ρ.set sl none).set sl (some x)) B' fun b B3 => (b = true → We K E1 noE te ((ρ.set sl none).set sl (some x)) B3 fun y B4 => I (i + 1) (out ++ [y]) B4) ∧ (b = false → I (i + 1) out B3)) ∧
    ∀ out B', out.length ≤ ds.length → I ds.length out B' → k (.lst out) B') : We K E e (tLc (iList K tl) (gName sl) tt te [sl]) ρ B k := fun σ H G Q s en x q =>
  h σ H G _ s en x fun d v B1 G1 H1 ⟨ds, ed, dl, I, i0, hs, hd⟩ e1 r1 => by
    subst ed
    obtain ⟨a, vs, rfl, ha, hr⟩ := r1
    refine ⟨a, rfl, ⟨vs, SqL.of (e1.sub _ _ ha)⟩, fun L nL => ?_⟩
    refine lc_list (xs := vs) (fun i H' => LcOk K (fun out B => out.length ≤ i ∧ I i out B) L G1 H1 B1 H') (lc_start e1.sub nL ⟨Nat.le_refl _, i0⟩) (fun i H' _ z => SqL.of (z.kept ha nopen_lst)) ?_ ?_
    · intro i y H' hi hz
      obtain ⟨dx, hdx, rx⟩ := hr.get' hi
      have hlt : i < ds.length := (List.getElem?_eq_some_iff.mp hdx).1
      exact lc_step nL e1.sub (en.mono e1.le) hz (by omega) rx (fun out B' hI => hs i dx out B' hdx hI)
    · intro H' hz
      refine lc_end e1 nL hz (fun out B' hI => ?_) q
      rw [← hr.length] at hI
      exact hd out B' hI.1 hI.2
end
end AW

set_option linter.all false
set_option maxRecDepth 100000
set_option maxHeartbeats 4000000
namespace AW
open PySem PySem.Spec PyProof.Rows L2
variable [Tbs]
def CDivG (_ j : Int) : Prop := j ≠ 0 ∧ j.natAbs.log2 < 9000
section
variable {X : Cx}
/-- // by any number of up to 9000 bits -/
theorem op_fdivG : OpR X (binaryOp .FloorDiv) (rI CDivG fun i j => .int (i.fdiv j)) := opI fun _ _ _ _ _ _ _ hc q => floordiv_int hc.1 q (.inl (PyProof.noPylong_of_log2 hc.2))
end
section
variable {K : PySem.W.Frag} {E E' : XK} {e : EW} {ρ : List (Option D)} {B : Int} {k : KD} {κ : KS} {ta tb : TE} {t : TA} {pr : Pr}
theorem we_max2 (h : Wa K E e t ρ B fun ds B1 => ∃ i j, ds = [.int i, .int j] ∧ k (.int (if j > i then j else i)) B1) : We K E e (tCB (fun xs H Q => ∃ i j, xs = [.int i, .int j] ∧ Q (.int (if j > i then j else i)) H) t) ρ B k :=
  we_cb fun σ H G Q s en x q => h σ H G Q s en x fun ds vs B1 G1 H1 h1 e1 r1 => q ds vs B1 G1 H1 (cb_fun2 (f := fun i j => if j > i then j else i) (fun i j H Q q => ⟨i, j, rfl, q⟩) h1) e1 r1
theorem we_min2 (h : Wa K E e t ρ B fun ds B1 => ∃ i j, ds = [.int i, .int j] ∧ k (.int (if j < i then j else i)) B1) : We K E e (tCB (fun xs H Q => ∃ i j, xs = [.int i, .int j] ∧ Q (.int (if j < i then j else i)) H) t) ρ B k :=
  we_cb fun σ H G Q s en x q => h σ H G Q s en x fun ds vs B1 G1 H1 h1 e1 r1 => q ds vs B1 G1 H1 (cb_fun2 (f := fun i j => if j < i then j else i) (fun i j H Q q => ⟨i, j, rfl, q⟩) h1) e1 r1
/-- a statement, what holds behind it, the rest -/
theorem ws_cut {ts us : TS} (J : KE') (h1 : Ws K E e ts ρ B { κ with nx := J }) (h2 : ∀ ρ' B', J ρ' B' → Ws K E e us ρ' B' κ) : Ws K E e (tSeq ts us) ρ B κ :=
  ws_seq fun σ H G Dn s en x q => h1 σ H G Dn s en x ⟨fun ρ' σ' B' G' H' z => q.nx ρ' σ' B' G' H' (h2 ρ' B' z), q.rt, q.bk, q.ct⟩
/-- list + list -/
theorem ro_catL {xs ys : List D} (hl : xs.length + ys.length ≤ sizeLine) (h : k (.lst (xs ++ ys)) B) : Ro K E e rCat (.lst xs) (.lst ys) B k := fun x y H G Q s r1 r2 _ q => by
  obtain ⟨a, vs, rfl, ha, hr⟩ := r1
  obtain ⟨b, ws, rfl, hb, hw⟩ := r2
  exact ⟨a, b, vs, ws, rfl, rfl, s _ _ ha, s _ _ hb, by rw [← hr.length, ← hw.length]; exact hl, fun p np =>
    q _ _ _ _ _ h (Ext.new s np) ⟨p, _, rfl, upd_same, (hr.append hw).mono (Ext.new (B := B) s np).le⟩⟩
end
abbrev t3 (x y a : Int) : D := .tup [.int x, .int y, .int a]
abbrev t2 (x y : Int) : D := .tup [.int x, .int y]
end AW

set_option linter.all false
set_option maxRecDepth 100000
set_option maxHeartbeats 4000000
namespace AW
open PySem PySem.Spec PyProof.Rows L2
variable [Tbs]
section
variable {K : PySem.W.Frag} {E E1 : XK} {e : EW} {ρ : List (Option D)} {B : Int} {k : KD} {tl te : TE} {sl : Nat}
theorem map_step {f : D → D} {ds : List D} {i : Nat} {x : D} (h : ds[i]? = some x) : (ds.map f).take i ++ [f x] = (ds.map f).take (i + 1) := by
  have hm : (ds.map f)[i]? = some (f x) := by rw [List.getElem?_map, h]; rfl
  rw [List.take_add_one, hm]
  rfl
theorem we_lc_mapL {f : D → D} (h : We K E e tl ρ B fun d B1 => ∃ ds, d = .lst ds ∧ ds.length < sizeLine ∧ (∀ x ∈ ds, ∀ k' : KD, k' (f x) B1 → We K E1 noE te ((ρ.set sl none).set sl (some x)) B1 k') ∧ k (.lst (ds.map f)) B1) :
    We K E e (tLc (iList K tl) (gName sl) tYes te [sl]) ρ B k := we_lc_list (E1 := E1) (h.imp fun d B1 ⟨ds, ed, hl, hs, hk⟩ => ⟨ds, ed, hl, fun i out B' => out = (ds.map f).take i ∧ B' = B1, ⟨rfl, rfl⟩, fun i x out B' hi ⟨eo, eB⟩ => wt_yes ⟨fun _ => by
      subst eB
      exact hs x (List.mem_of_getElem? hi) _ ⟨by rw [eo]; exact map_step hi, rfl⟩, fun h => nomatch h⟩, fun out B' _ ⟨eo, eB⟩ => by
      rw [eo, eB, List.take_of_length_le (by rw [List.length_map]; exact Nat.le_refl _)]
      exact hk⟩)
end
/-- what the statement asks of the law -/
def spLaw (K : PySem.W.Frag) : Sp := fun vs H Q E => ∃ (a : Addr) (ns : List Int), vs = [.ref a] ∧ SqL K H a (ns.map V.int) ∧ ns.length ≤ 63 ∧ LamX.Tabs Tbs.T H ∧ ∀ H', Q (.bl true) H'
open Classical in
theorem spLaw_imp {K : PySem.W.Frag} {pr : Pr} (h : ∀ (ns : List Int) (k : KD), ns.length ≤ 63 → (∀ B', k (.bl true) B') → pr [.scr ns] 0 k noE) : ∀ vs H Q E, spLaw K vs H Q E → spD K pr vs H Q E := fun vs H Q E ⟨a, ns, ev, hS, hl, hT, kq⟩ => by
  subst ev
  let G : Hp := fun b => if b = a ∨ (∃ ps, H b = some (.tbl ps)) ∨ (∃ q, H b = some (LamX.CodeO b q)) then H b else none
  have gt : ∀ b, (b = a ∨ (∃ ps, H b = some (.tbl ps)) ∨ (∃ q, H b = some (LamX.CodeO b q))) → G b = H b := fun b h => if_pos h
  have ga : G a = H a := gt a (.inl rfl)
  refine ⟨G, [.scr ns], 0, fun d _ => d = .bl true, noE, fun b o z => ?_, ⟨_, [], rfl, ⟨fun p hp => ?_, a, rfl, ?_⟩, rfl⟩, h ns _ hl (fun _ => rfl), fun d v B' G' H' hd _ hr => ?_, XOk.no⟩
  · by_cases hb : b = a ∨ (∃ ps, H b = some (.tbl ps)) ∨ (∃ q, H b = some (LamX.CodeO b q))
    · rw [gt b hb] at z
      exact z
    · have z2 : G b = none := if_neg hb
      rw [z2] at z
      cases z
  · obtain ⟨ps, h1, h2, h3⟩ := hT p hp
    refine ⟨ps, by rw [gt _ (.inr (.inl ⟨ps, h1⟩))]; exact h1, h2, fun pos cv hc => ?_⟩
    obtain ⟨c, e1, e2⟩ := h3 pos cv hc
    exact ⟨c, e1, by rw [gt _ (.inr (.inr ⟨_, e2⟩))]; exact e2⟩
  · rcases hS with (hS | ⟨o, hS⟩) | hS
    · exact .inl (.inl (ga.trans hS))
    · exact .inl (.inr ⟨o, ga.trans hS⟩)
    · exact .inr hS
  · subst hd
    rw [show v = _ from hr]
    exact kq H'
end AW

set_option linter.all false
set_option maxRecDepth 100000
set_option maxHeartbeats 4000000
namespace AW
open PySem PySem.Spec PyProof.Rows L2 LamX
variable [Tbs]
section
variable {K : PySem.W.Frag} {E E' : XK} {e : EW} {ρ : List (Option D)} {B : Int} {k : KD} {κ : KS}
end
end AW

set_option linter.all false
set_option maxRecDepth 100000
set_option maxHeartbeats 4000000
namespace AW
open PySem PySem.Spec PyProof.Rows L2
variable [Tbs]
section
variable {K : PySem.W.Frag} {E E' : XK} {e : EW} {ρ : List (Option D)} {B : Int} {k : KD} {κ : KS} {ta tb : TE} {t : TA} {pr : Pr}
/-- all of them -/
theorem we_all (h : Wa K E e t ρ B fun ds B1 => ∃ bs : List Bool, ds = [.lst (bs.map D.bl)] ∧ k (.bl (bs.all id)) B1) : We K E e (tCB (rAll K) t) ρ B k :=
  we_cb fun σ H G Q s en x q => h σ H G Q s en x fun ds vs B1 G1 H1 ⟨bs, ed, hk⟩ e1 r1 => q ds vs B1 G1 H1 (fun ws H2 G2 Q2 s2 r2 q2 => by
    subst ed
    obtain ⟨v, _, rfl, ⟨a, us, rfl, ha, hr⟩, rfl⟩ := r2
    have z : ∀ (bs : List Bool) (us : List V), RepL K G2 B1 (bs.map D.bl) us → us = bs.map V.bl := by
      intro bs
      induction bs with
      | nil => intro us h; exact h
      | cons b r ih =>
        intro us h
        obtain ⟨v, w, rfl, h1, h2⟩ := h
        rw [show v = _ from h1, ih _ h2]
        rfl
    refine ⟨a, bs, rfl, ?_, q2 _ _ _ _ _ hk (Ext.refl s2) rfl⟩
    rw [← z bs us hr]
    exact SqL.of (s2 _ _ ha)) e1 r1
/-- a value with an address keeps it -/
def refD : D → Bool
  | .tup _ => true
  | .lst _ => true
  | .ins _ _ _ => true
  | .edk => true
  | _ => false
theorem Rep.refD {G : Hp} : ∀ {d : D} {v : V}, Rep K G B d v → AW.refD d = true → ∃ a, v = .ref a
  | .tup _, _, ⟨a, vs, e, _⟩, _ => ⟨a, e⟩
  | .lst _, _, ⟨a, vs, e, _⟩, _ => ⟨a, e⟩
  | .ins _ _ _, _, ⟨a, _, vs, e, _⟩, _ => ⟨a, e⟩
  | .non, _, _, o => nomatch o
  | .bl _, _, _, o => nomatch o
  | .int _, _, _, o => nomatch o
  | .str _, _, _, o => nomatch o
  | .pen _ _, _, _, o => nomatch o
  | .scr _, _, _, o => nomatch o
  | .val _, _, _, o => nomatch o
  | .lam _ _, _, _, o => nomatch o
  | .at_ _ _, _, _, o => nomatch o
  | .tb _, _, _, o => nomatch o
  | .edk, _, ⟨a, e, _⟩, _ => ⟨a, e⟩
  | .dk _ _, _, _, o => nomatch o
  | .kt _, _, _, o => nomatch o
  | .dt _ _ _, _, _, o => nomatch o
def seen (d d' : D) : Prop := d' = d ∧ AW.refD d = false ∨ (∃ a, d' = .at_ (.ref a) d) ∧ AW.refD d = true
def DSam : Eqv := fun x y _ => ∃ a, x = .ref a ∧ y = .ref a
def DOd : Eqv := fun x y H => DFlat x y H ∨ DSam x y H
inductive Alike : D → D → Prop where
  | non : Alike .non .non
  | bl (b : Bool) : Alike (.bl b) (.bl b)
  | int (i : Int) : Alike (.int i) (.int i)
  | str (x : Str) : Alike (.str x) (.str x)
  | at_ (a : Addr) (d d' : D) : Alike (.at_ (.ref a) d) (.at_ (.ref a) d')
theorem Alike.od {G H : Hp} {d d' : D} {v v' : V} (h : Alike d d') (r : Rep K G B d v) (r' : Rep K G B d' v') : DOd v v' H := by
  cases h with
  | non => rw [show v = _ from r, show v' = _ from r']; exact .inl ⟨rfl, rfl, rfl⟩
  | bl b => rw [show v = _ from r, show v' = _ from r']; exact .inl ⟨rfl, rfl, by cases b <;> rfl⟩
  | int i => rw [show v = _ from r, show v' = _ from r']; exact .inl ⟨rfl, rfl, by simp [eqV]⟩
  | str x => rw [show v = _ from r, show v' = _ from r']; exact .inl ⟨rfl, rfl, by simp [eqV]⟩
  | at_ a d d' => exact .inr ⟨a, r.1, r'.1⟩
inductive AlikeL : List D → List D → Prop where
  | nil : AlikeL [] []
  | cons {d d' : D} {ds ds' : List D} (h : Alike d d') (r : AlikeL ds ds') : AlikeL (d :: ds) (d' :: ds')
theorem AlikeL.len {ds ds' : List D} (h : AlikeL ds ds') : ds.length = ds'.length := by
  induction h with
  | nil => rfl
  | cons _ _ ih => rw [List.length_cons, List.length_cons, ih]
end
end AW

set_option linter.all false
set_option maxRecDepth 100000
set_option maxHeartbeats 4000000
namespace AW
open PySem PySem.Spec PyProof.Rows L2
variable [Tbs]
def tOr2E (t u : TE) : TE := fun σ H Q => t σ H Q ∨ u σ H Q
theorem pe_or2 {X : Cx} {e : Expr} {t u : TE} (h1 : PE X e t) (h2 : PE X e u) : PE X e (tOr2E t u) := ⟨fun pins s σ H Q I h => h.elim (h1.run pins s σ H Q I) (h2.run pins s σ H Q I)⟩
section
variable {K : PySem.W.Frag} {E E' E1 : XK} {e : EW} {ρ : List (Option D)} {B : Int} {k : KD} {κ : KS} {ta tb tl te : TE} {t : TA} {us : TS} {pr : Pr} {i sl : Nat} {ds : List D}
theorem we_orL (h : We K E e ta ρ B k) : We K E e (tOr2E ta tb) ρ B k := fun σ H G Q s en x q => .inl (h σ H G Q s en x q)
theorem we_orR (h : We K E e tb ρ B k) : We K E e (tOr2E ta tb) ρ B k := fun σ H G Q s en x q => .inr (h σ H G Q s en x q)
end
end AW

set_option linter.all false
set_option maxRecDepth 100000
set_option maxHeartbeats 4000000
namespace AW
open PySem PySem.Spec PyProof.Rows L2
variable [Tbs]
section
variable {K : PySem.W.Frag} {E E' E1 : XK} {e : EW} {ρ : List (Option D)} {B : Int} {k : KD} {κ : KS} {ta tb tl te ty : TE} {tt : TT} {t : TA} {us : TS} {pr : Pr} {i sl : Nat} {ds : List D}
/-- a text's letter -/
theorem ro_ixS {z : Str} {i : Int} {c : _} (hz : z.length ≤ sizeLine) (h : atI z.cps.toList i = some c) (hk : k (.str ⟨#[c]⟩) B) : Ro K E e rIxS (.str z) (.int i) B k := fun x y H G Q s r1 r2 _ q =>
  ⟨z, i, c, r1, r2, hz, h, q _ _ _ _ _ hk (Ext.refl s) rfl⟩
theorem we_lenS (h : Wa K E e t ρ B fun ds B1 => ∃ ns : List Int, ds = [.scr ns] ∧ k (.int ns.length) B1) : We K E e (tCB (fun xs H Q => ∃ p ys, xs = [.ref p] ∧ (SqL K H p ys ∨ SqT K H p ys) ∧ Q (.int ys.length) H) t) ρ B k :=
  we_cb fun σ H G Q s en x q => h σ H G Q s en x fun ds vs B1 G1 H1 ⟨ns, ed, h1⟩ e1 r1 => q ds vs B1 G1 H1 (fun ws H2 G2 Q2 s2 r2 q2 => by
    subst ed
    obtain ⟨v, _, rfl, ⟨_, a, rfl, ha⟩, rfl⟩ := r2
    exact ⟨a, _, rfl, .inl ((Le.of_sub (B := B1) (B' := B1) s2 (Int.le_refl _)).seqL ha), by rw [List.length_map]; exact q2 _ _ _ _ _ h1 (Ext.refl s2) rfl⟩) e1 r1
def lookD (l : List (Str × D)) (z : Str) : Option D := l.foldl (fun o kv => if kv.1 = z then some kv.2 else o) none
def Wps (K : PySem.W.Frag) (E : XK) (e : EW) (ρ : List (Option D)) : List (TE × TE) → Int → (List (Str × D) → Int → Prop) → Prop
  | [], B, k => k [] B
  | (tk, tv) :: r, B, k => We K E e tk ρ B fun a B1 => ∃ z, a = .str z ∧ We K E e tv ρ B1 fun d B2 => Wps K E e ρ r B2 fun l B3 => k ((z, d) :: l) B3
theorem wps_run : ∀ (trs : List (TE × TE)) {B : Int} {k : List (Str × D) → Int → Prop}, Wps K E e ρ trs B k → ∀ σ H G (Q : List (V × V) → Hp → Prop), Sub G H → EnvR K G B ρ σ → XOk K E e G H B →
    (∀ l (vs : List V) B' G' H', k l B' → Ext G H B G' H' B' → RepL K G' B' (l.map (·.2)) vs → Q ((l.map (·.1)).zip vs |>.map fun p => (V.str p.1, p.2)) H') → tPairs trs σ H Q
  | [], B, k, h, σ, H, G, Q, s, en, x, q => by
    have := q [] [] B G H h (Ext.refl s) rfl
    exact this
  | (tk, tv) :: r, B, k, h, σ, H, G, Q, s, en, x, q => by
    refine h σ H G _ s en x fun a v B1 G1 H1 ⟨z, ez, h1⟩ e1 r1 => ?_
    subst ez
    rw [show v = _ from r1]
    refine h1 σ H1 G1 _ e1.sub (en.mono e1.le) (x.ext e1) fun d w B2 G2 H2 h2 e2 r2 => ?_
    refine wps_run r h2 σ H2 G2 _ e2.sub ((en.mono e1.le).mono e2.le) ((x.ext e1).ext e2) fun l vs B3 G3 H3 hk e3 r3 => ?_
    exact q ((z, d) :: l) (w :: vs) B3 G3 H3 hk ((e1.trans e2).trans e3) ⟨w, vs, rfl, r2.mono e3.le, r3⟩
theorem look_merge {G : Hp} {B : Int} (z : Str) : ∀ (l : List (Str × D)) (vs : List V) (acc : List (Key × V)) (o : Option D), RepL K G B (l.map (·.2)) vs → (∀ d, o = some d → ∃ v, valV acc (Sum.inr z) = some v ∧ Rep K G B d v) →
    ∀ d, l.foldl (fun o kv => if kv.1 = z then some kv.2 else o) o = some d → ∃ v, valV (mergeK acc ((l.map (·.1)).zip vs |>.map fun p => ((Sum.inr p.1 : Key), p.2))) (Sum.inr z) = some v ∧ Rep K G B d v
  | [], vs, acc, o, hr, ho, d, h => by
    rw [show vs = _ from hr]
    exact ho d h
  | (y, d0) :: l, vs, acc, o, hr, ho, d, h => by
    obtain ⟨v, w, rfl, h1, h2⟩ := hr
    refine look_merge z l w (putK acc (Sum.inr y) v) (if y = z then some d0 else o) h2 (fun d1 e1 => ?_) d h
    rw [valV_put]
    by_cases hy : y = z
    · subst hy
      rw [if_pos rfl] at e1
      cases e1
      exact ⟨v, if_pos rfl, h1⟩
    · rw [if_neg hy] at e1
      obtain ⟨u, k1, k2⟩ := ho d1 e1
      refine ⟨u, ?_, k2⟩
      rw [if_neg (fun w => hy (Sum.inr.inj w).symm)]
      exact k1
theorem we_lc_range1 (h : Wa K E e t ρ B fun as B1 => ∃ j : Int, as = [.int j] ∧ -(2 ^ 62) ≤ j ∧ j < 2 ^ 62 ∧ j.toNat < sizeLine ∧ ∃ I : Nat → List D → Int → Prop, I 0 [] B1 ∧
    (∀ (i : Nat) out B', i < j.toNat → I i out B' → Wt K E1 noE tt ((ρ.set sl none).set sl (some (.int (0 + i)))) B' fun b B3 => (b = true → We K E1 noE te ((ρ.set sl none).set sl (some (.int (0 + i)))) B3 fun y B4 => I (i + 1) (out ++ [y]) B4) ∧ (b = false → I (i + 1) out B3)) ∧
    ∀ out B', out.length ≤ j.toNat → I j.toNat out B' → k (.lst out) B') : We K E e (tLc (iRng1 t) (gName sl) tt te [sl]) ρ B k := fun σ H G Q s en x q =>
  h σ H G _ s en x fun as vs B1 G1 H1 ⟨j, ed, j0, j1, jl, I, i0, hs, hd⟩ e1 r1 => by
    subst ed
    obtain ⟨v, _, rfl, rv, rfl⟩ := r1
    rw [show v = _ from rv]
    refine ⟨j, rfl, j0, j1, fun L nL => ?_⟩
    refine lc_range (fun i H' => LcOk K (fun out B => out.length ≤ i ∧ I i out B) L G1 H1 B1 H') (lc_start e1.sub nL ⟨Nat.le_refl _, i0⟩) ?_ ?_
    · intro i H' hi hz
      have hz2 := hz
      exact lc_step nL e1.sub (en.mono e1.le) hz (by omega) (d := .int (0 + i)) rfl (fun out B' hI => hs i out B' hi hI)
    · intro H' hz
      exact lc_end e1 nL hz (fun out B' hI => hd out B' hI.1 hI.2) q
end
end AW

set_option linter.all false
set_option maxRecDepth 100000
set_option maxHeartbeats 4000000
namespace AW
open PySem PySem.Spec PyProof.Rows L2
variable [Tbs]
section
variable {K : PySem.W.Frag} {E E' : XK} {e : EW} {ρ : List (Option D)} {B : Int} {k : KD} {κ : KS} {ta tb tf : TE} {t : TA} {pr : Pr}
theorem nopen_ents {ents : List (Key × V)} (h : valV ents (Sum.inr "cells") = none) : ¬ IsPen (.dK ents) := fun z => by
  rcases z with ⟨k, l, c, s, r, z⟩ | ⟨_, z⟩
  · injection z with z
    subst z
    unfold penE at h
    simp [valV] at h
  · cases z
theorem merge_none (z : Str) : ∀ (l : List (Str × V)) (acc : List (Key × V)), (∀ p ∈ l, p.1 ≠ z) → valV acc (Sum.inr z) = none → valV (mergeK acc (l.map fun p => ((Sum.inr p.1 : Key), p.2))) (Sum.inr z) = none
  | [], acc, _, h => h
  | p :: l, acc, hl, h => by
    show valV (mergeK (putK acc (Sum.inr p.1) p.2) (l.map fun p => ((Sum.inr p.1 : Key), p.2))) (Sum.inr z) = none
    refine merge_none z l _ (fun q hq => hl q (List.mem_cons_of_mem _ hq)) ?_
    rw [valV_put, if_neg (fun w => hl p (List.mem_cons_self ..) (Sum.inr.inj w).symm)]
    exact h
/-- a dict of written names -/
theorem we_disp {trs : List (TE × TE)} (h : Wps K E e ρ trs B fun l B1 => l.length ≤ 15 ∧ (∀ p ∈ l, p.1 ≠ "cells") ∧ k (.dk (l.map (·.1)) (l.map (·.2))) B1) : We K E e (tDisp trs) ρ B k := fun σ H G Q s en x q => by
  intro p np
  have ex := Ext.hid (B := B) (o := .dK []) s np
  have gp : G p = none := by
    cases z : G p with
    | none => rfl
    | some u => rw [s _ _ z] at np; cases np
  refine wps_run trs h σ _ G _ ex.sub en (x.ext ex) fun l vs B1 G1 H1 ⟨hl, hc, h1⟩ e1 r1 => ?_
  obtain ⟨z1, z2⟩ := e1.fr p _ upd_same gp ⟨(fun _ z => nomatch z), fun _ z => nomatch z⟩
  have hll : l.length = vs.length := by rw [← r1.length, List.length_map]
  refine ⟨z1, (l.map (·.1)).zip vs |>.map fun p => ((Sum.inr p.1 : Key), p.2), ?_, ?_, ?_⟩
  · rw [List.map_map]
    rfl
  · rw [List.length_map, List.length_zip, List.length_map, ← hll, Nat.min_self]
    exact hl
  · have eB := ex.trans e1
    have np2 : ¬ IsPen (.dK (mergeK [] ((l.map (·.1)).zip vs |>.map fun p => ((Sum.inr p.1 : Key), p.2)))) := nopen_ents (merge_none "cells" _ _ (fun p hp => by
      have := (List.of_mem_zip (a := p.1) (b := p.2) hp).1
      obtain ⟨r, hr, er⟩ := List.mem_map.mp this
      rw [← er]
      exact hc r hr) rfl)
    have le2 : Le G1 B1 (upd G1 p (.dK (mergeK [] ((l.map (·.1)).zip vs |>.map fun p => ((Sum.inr p.1 : Key), p.2))))) B1 := Le.of_sub (fun a o z => by rw [upd_ne (ne_of_none z z2)]; exact z) (Int.le_refl _)
    have eA : Ext G H B (upd G1 p (.dK (mergeK [] ((l.map (·.1)).zip vs |>.map fun p => ((Sum.inr p.1 : Key), p.2))))) (upd H1 p (.dK (mergeK [] ((l.map (·.1)).zip vs |>.map fun p => ((Sum.inr p.1 : Key), p.2))))) B1 := by
      refine ⟨eB.le.trans le2, fun a o z => ?_, fun a o z n t => ?_⟩
      · by_cases hq : a = p
        · subst hq; rw [upd_same] at z ⊢; exact z
        · rw [upd_ne hq] at z ⊢; exact e1.sub _ _ z
      · have hq : a ≠ p := ne_of_none z np
        rw [upd_ne hq, upd_ne hq]
        exact eB.fr _ _ z n t
    exact q _ _ _ _ _ h1 eA ⟨p, vs, rfl, upd_same, np2, r1.mono le2⟩
theorem we_dget (h : We K E e ta ρ B fun d B1 => ∃ l : List (Str × D), d = .dk (l.map (·.1)) (l.map (·.2)) ∧ We K E e tb ρ B1 fun kd B2 => ∃ z d', kd = .str z ∧ lookD l z = some d' ∧ k d' B2) : We K E e (tDGet ta tb) ρ B k := fun σ H G Q s en x q =>
  h σ H G _ s en x fun d v B1 G1 H1 ⟨l, ed, h1⟩ e1 r1 => by
    subst ed
    refine h1 σ H1 G1 _ e1.sub (en.mono e1.le) (x.ext e1) fun kd u B2 G2 H2 ⟨z, d', ez, hz, hk⟩ e2 r2 => ?_
    subst ez
    rw [show u = _ from r2]
    obtain ⟨a, vs, rfl, ha, n, hr⟩ := r1.mono e2.le
    obtain ⟨v, w1, w2⟩ := look_merge (K := K) (G := G2) (B := B2) z l vs [] none hr (fun d q => nomatch q) d' hz
    exact ⟨a, v, rfl, by rw [← w1]; exact DGet.k (k := Sum.inr z) (e2.sub _ _ ha), q _ _ _ _ _ hk (e1.trans e2) w2⟩
end
end AW

set_option linter.all false
set_option maxRecDepth 100000
set_option maxHeartbeats 4000000
namespace AW
open PySem PySem.Spec PyProof.Rows L2
variable [Tbs]
section
variable {K : PySem.W.Frag} {E E' : XK} {e : EW} {ρ : List (Option D)} {B : Int} {k : KD} {κ : KS} {ta tb tf : TE} {t : TA} {pr : Pr}
theorem ws_while {c : TT} {ts : TS} (I : Nat → KE') (m : Nat) (h0 : I m ρ B)
    (hs : ∀ n ρ' B', I n ρ' B' → Wt K E e c ρ' B' fun b B1 => (b = true → Ws K E e ts ρ' B1 { nx := fun ρ2 B2 => ∃ n', n' < n ∧ I n' ρ2 B2, rt := κ.rt, bk := κ.nx, ct := fun ρ2 B2 => ∃ n', n' < n ∧ I n' ρ2 B2 }) ∧ (b = false → κ.nx ρ' B1)) : Ws K E e (tWhile c ts) ρ B κ := fun σ H G Dn s en x q => by
  refine ⟨fun n σ' H' => ∃ ρ' B' G', I n ρ' B' ∧ Ext G H B G' H' B' ∧ EnvR K G' B' ρ' σ', ⟨m, ρ, B, G, h0, Ext.refl s, en⟩, ?_⟩
  rintro n σ' H' ⟨ρ', B', G', hI, e1, en1⟩
  refine hs n ρ' B' hI σ' H' G' _ e1.sub en1 (x.ext e1) fun b B2 G2 H2 hb e2 => ?_
  have eA := e1.trans e2
  cases b with
  | true =>
    rw [if_pos rfl]
    refine ⟨fun σ3 H3 => ∃ n', n' < n ∧ ∃ ρ' B' G', I n' ρ' B' ∧ Ext G H B G' H3 B' ∧ EnvR K G' B' ρ' σ3, fun _ _ z => z, ?_⟩
    refine hb.1 rfl σ' H2 G2 _ e2.sub (en1.mono e2.le) (x.ext eA) ⟨?_, q.rt.ext eA, q.nx.ext eA, ?_⟩
    · rintro ρ3 σ3 B3 G3 H3 ⟨n', l, h3⟩ e3 en3
      exact ⟨n', l, ρ3, B3, G3, h3, eA.trans e3, en3⟩
    · rintro ρ3 σ3 B3 G3 H3 ⟨n', l, h3⟩ e3 en3
      exact ⟨n', l, ρ3, B3, G3, h3, eA.trans e3, en3⟩
  | false =>
    rw [if_neg Bool.false_ne_true]
    exact q.nx _ _ _ _ _ (hb.2 rfl) eA (en1.mono e2.le)
end
end AW

set_option linter.all false
set_option maxRecDepth 100000
set_option maxHeartbeats 4000000
namespace AW
open PySem PySem.Spec PyProof.Rows L2
variable [Tbs]
theorem Wt.imp {K : PySem.W.Frag} {E : XK} {e : EW} {c : TT} {ρ : List (Option D)} {B : Int} {k k' : Bool → Int → Prop} (h : Wt K E e c ρ B k) (f : ∀ b B', k b B' → k' b B') : Wt K E e c ρ B k' :=
  fun σ H G Q s en x q => h σ H G Q s en x fun b B' G' H' hk => q b B' G' H' (f b B' hk)
end AW

set_option linter.all false
set_option maxRecDepth 100000
set_option maxHeartbeats 4000000
namespace AW
open PySem PySem.Spec PyProof.Rows L2 RZ
variable [Tbs]
section
abbrev ItzG (Sq : Hp → Addr → List V → Prop) (a b : Addr) : It :=
  ⟨fun i H => ∃ (xs ys : List V) (x y : V), Sq H a xs ∧ Sq H b ys ∧ xs[i]? = some x ∧ ys[i]? = some y,
    fun i H v H' => ∃ T x y, v = .ref T ∧ H T = none ∧ H' = upd H T (.tup [x, y]) ∧ (∀ xs, Sq H a xs → xs[i]? = some x) ∧ ∀ ys, Sq H b ys → ys[i]? = some y,
    fun i H => ∃ xs ys : List V, Sq H a xs ∧ Sq H b ys ∧ (xs.length ≤ i ∨ ys.length ≤ i)⟩
theorem lc_zip {Sq : Hp → Addr → List V → Prop} {a b : Addr} {xs ys : List V} (hl : xs.length = ys.length) {g : TG} {tt : TT} {te : TE} {vs : List Nat} {σ : L2.St} {H1 : Hp} {D : Addr} {Qd : Hp → Prop} (Pv : Nat → Hp → Prop) (h0 : Pv 0 (upd H1 D (.lst []))) (hq : ∀ i H, i ≤ xs.length → Pv i H → Sq H a xs ∧ Sq H b ys)
    (hs : ∀ i x y T H, xs[i]? = some x → ys[i]? = some y → Pv i H → H T = none → g (.ref T) (wipe σ vs) (upd H T (.tup [x, y])) fun σ2 H2 => wipe σ2 vs = wipe σ vs ∧ tt σ2 H2 fun b H3 =>
      if b = true then te σ2 H3 fun y H4 => ∃ acc, H4 D = some (.lst acc) ∧ acc.length < sizeLine ∧ Pv (i + 1) (upd H4 D (.lst (acc ++ [y]))) else Pv (i + 1) H3) (hd : ∀ H, Pv xs.length H → Qd H) :
    ∃ W : Nat → Nat → Hp → Prop, (∃ m, W 0 m (upd H1 D (.lst []))) ∧ ∀ i m H, W i m H →
      ((ItzG Sq a b).stop i H ∧ Qd H) ∨ ((ItzG Sq a b).go i H ∧ ∃ Nx : Hp → Prop, (∀ H', Nx H' → ∃ m', m' < m ∧ W (i + 1) m' H') ∧ ∀ x H', (ItzG Sq a b).yld i H x H' → g x (wipe σ vs) H' fun σ2 H2 => wipe σ2 vs = wipe σ vs ∧ tt σ2 H2 fun b H3 =>
        if b = true then te σ2 H3 fun y H4 => ∃ acc, H4 D = some (.lst acc) ∧ acc.length < sizeLine ∧ Nx (upd H4 D (.lst (acc ++ [y]))) else Nx H3) := by
  refine ⟨fun i m H => m = xs.length - i ∧ i ≤ xs.length ∧ Pv i H, ⟨xs.length, rfl, Nat.zero_le _, h0⟩, ?_⟩
  rintro i m H ⟨rfl, hi, p⟩
  obtain ⟨qx, qy⟩ := hq i H hi p
  by_cases hlt : i < xs.length
  · have hx : xs[i]? = some xs[i] := List.getElem?_eq_getElem hlt
    have hlt2 : i < ys.length := by omega
    have hy : ys[i]? = some ys[i] := List.getElem?_eq_getElem hlt2
    refine .inr ⟨⟨xs, ys, _, _, qx, qy, hx, hy⟩, Pv (i + 1), fun H' p' => ⟨xs.length - (i + 1), by omega, rfl, hlt, p'⟩, fun v H' y => ?_⟩
    obtain ⟨T, x', y', rfl, hT, rfl, f1, f2⟩ := y
    exact hs i x' y' T H (f1 xs qx) (f2 ys qy) p hT
  · have e : i = xs.length := by omega
    subst e
    exact .inl ⟨⟨xs, ys, qx, qy, Or.inl (Nat.le_refl _)⟩, hd H p⟩
theorem set_two {α : Type} (σ : List α) {i j : Nat} (hij : i ≠ j) (u v w z : α) : ((((((σ.set j z).set i z).set i v).set j w).set j z).set i z) = (σ.set j z).set i z := by
  apply List.ext_getElem?
  intro n
  simp only [List.getElem?_set, List.length_set]
  split <;> split <;> simp_all
variable {K : PySem.W.Frag} {E E' E1 : XK} {e : EW} {ρ : List (Option D)} {B : Int} {k : KD} {κ : KS} {ta tb tl te : TE} {t : TA} {us ts : TS} {pr : Pr} {i j sl : Nat} {ds : List D}
theorem zip_step {f : D → D → D} {xs ys : List D} {n : Nat} {x y : D} (hx : xs[n]? = some x) (hy : ys[n]? = some y) : (List.zipWith f xs ys).take n ++ [f x y] = (List.zipWith f xs ys).take (n + 1) := by
  have hm : (List.zipWith f xs ys)[n]? = some (f x y) := by rw [List.getElem?_zipWith, hx, hy]
  rw [List.take_add_one, hm]
  rfl
theorem lc_zipD {Sq : Hp → Addr → List V → Prop} {a b : Addr} {xs ys : List D} {us ws : List V} {G H G1 H1 : Hp} {B1 : Int} {σ : L2.St} {Q : VK} {f : D → D → D} (hij : i ≠ j) (e1 : Ext G H B G1 H1 B1) (en : EnvR K G1 B1 ρ σ) (q : KOk K k Q G H B)
    (hkeep : ∀ G' H' B', Ext G1 H1 B1 G' H' B' → Sq H' a us ∧ Sq H' b ws) (hr : RepL K G1 B1 xs us) (hw : RepL K G1 B1 ys ws) (hl : xs.length = ys.length) (hz : xs.length < sizeLine)
    (hs : ∀ (n : Nat) (x y : D), xs[n]? = some x → ys[n]? = some y → ∀ k' : KD, k' (f x y) B1 → We K E1 noE te ((((ρ.set j none).set i none).set i (some x)).set j (some y)) B1 k') (hk : k (.lst (List.zipWith f xs ys)) B1) (D : Addr) (nD : H1 D = none) :
    ∃ W : Nat → Nat → Hp → Prop, (∃ m, W 0 m (upd H1 D (.lst []))) ∧ ∀ n m H, W n m H →
      ((ItzG Sq a b).stop n H ∧ Q (.ref D) H) ∨ ((ItzG Sq a b).go n H ∧ ∃ Nx : Hp → Prop, (∀ H', Nx H' → ∃ m', m' < m ∧ W (n + 1) m' H') ∧ ∀ x H', (ItzG Sq a b).yld n H x H' → gTup K 2 (gCons (gName i) (gCons (gName j) gNil)) x (wipe σ [i, j]) H' fun σ2 H2 => wipe σ2 [i, j] = wipe σ [i, j] ∧ tYes σ2 H2 fun b H3 =>
        if b = true then te σ2 H3 fun y H4 => ∃ acc, H4 D = some (.lst acc) ∧ acc.length < sizeLine ∧ Nx (upd H4 D (.lst (acc ++ [y]))) else Nx H3) := by
  have hul : us.length = ws.length := by rw [← hr.length, ← hw.length]; exact hl
  refine lc_zip (Sq := Sq) (xs := us) (ys := ws) hul (fun n H' => LcOk K (fun out B => out = (List.zipWith f xs ys).take n ∧ B = B1) D G1 H1 B1 H') (lc_start e1.sub nD ⟨by simp, rfl⟩) (fun n H' _ z => ?_) ?_ ?_
  · obtain ⟨out, B', G', acc, hI, e2, gL, hL, hr2⟩ := z
    exact hkeep G' H' B' e2
  · intro n v w T H' hv hw2 hP hT
    obtain ⟨x, hx, rx⟩ := hr.get' hv
    obtain ⟨y, hy, ry⟩ := hw.get' hw2
    obtain ⟨out, B', G', acc, ⟨eo, eB⟩, e2, gL, hL, hr2⟩ := hP
    subst eB
    refine ⟨T, [v, w], rfl, SqT.of upd_same, rfl, v, [w], rfl, w, [], rfl, rfl, ?_, ?_⟩
    · show ((((((σ.set j none).set i none).set i (some v)).set j (some w)).set j none).set i none) = (σ.set j none).set i none
      exact set_two σ hij (some v) (some v) (some w) none
    · have hTD : D ≠ T := ne_of_none hL hT
      have e3 : Ext G' H' B' G' (upd H' T (.tup [v, w])) B' := Ext.hid e2.sub hT
      have e23 := e2.trans e3
      have en2 : EnvR K G' B' ((((ρ.set j none).set i none).set i (some x)).set j (some y)) ((((σ.set j none).set i none).set i (some v)).set j (some w)) := EnvR.set (ry.mono e2.le) j (EnvR.set (rx.mono e2.le) i (EnvR.wipe1 i (EnvR.wipe1 j (en.mono e2.le))))
      refine hs n x y hx hy (fun d B2 => d = f x y ∧ B2 = B') ⟨rfl, rfl⟩ _ _ G' _ e3.sub en2 XOk.no fun d u B4 G4 H4 ⟨ed, eB⟩ e4 r4 => ?_
      subst ed eB
      have hL2 : upd H' T (.tup [v, w]) D = some (.lst acc) := by rw [upd_ne hTD]; exact hL
      obtain ⟨z1, z2⟩ := e4.fr D _ hL2 gL ⟨(fun _ z => nomatch z), fun _ z => nomatch z⟩
      have hlen : acc.length < sizeLine := by
        rw [← hr2.length, eo, List.length_take, List.length_zipWith]
        omega
      refine ⟨acc, z1, hlen, out ++ [f x y], B4, G4, acc ++ [u], ⟨by rw [eo]; exact zip_step hx hy, rfl⟩, ?_, z2, upd_same, (hr2.mono e4.le).append ⟨u, [], rfl, r4, rfl⟩⟩
      have eA := e23.trans e4
      refine ⟨eA.le, fun a o z => ?_, fun a o z n t => ?_⟩
      · have : a ≠ D := fun q => by rw [q, z2] at z; cases z
        rw [upd_ne this]; exact eA.sub _ _ z
      · have : a ≠ D := ne_of_none z nD
        rw [upd_ne this]
        exact eA.fr _ _ z n t
  · intro H' hz2
    refine lc_end e1 nD hz2 (fun out B' hI => ?_) q
    obtain ⟨eo, eB⟩ := hI
    subst eB
    have : (List.zipWith f xs ys).take us.length = List.zipWith f xs ys := List.take_of_length_le (by rw [List.length_zipWith, ← hr.length]; omega)
    rw [eo, this]
    exact hk
/-- [f(x, y) for x, y in zip(tuple, tuple)] -/
theorem we_lc_zipT (hij : i ≠ j) (h : Wa K E e t ρ B fun as B1 => ∃ xs ys : List D, as = [.tup xs, .tup ys] ∧ xs.length = ys.length ∧ xs.length < sizeLine ∧ ∃ f : D → D → D, (∀ (n : Nat) (x y : D), xs[n]? = some x → ys[n]? = some y → ∀ k' : KD, k' (f x y) B1 → We K E1 noE te ((((ρ.set j none).set i none).set i (some x)).set j (some y)) B1 k') ∧ k (.lst (List.zipWith f xs ys)) B1) :
    We K E e (tLc (iZipA K t) (gTup K 2 (gCons (gName i) (gCons (gName j) gNil))) tYes te [i, j]) ρ B k := fun σ H G Q s en x q =>
  h σ H G _ s en x fun as vs B1 G1 H1 ⟨xs, ys, ed, hl, hz, f, hs, hk⟩ e1 r1 => by
    subst ed
    obtain ⟨_, _, rfl, ⟨a, us, rfl, ha, hr⟩, _, _, rfl, ⟨b, ws, rfl, hb, hw⟩, rfl⟩ := r1
    have kp : ∀ G' H' B', Ext G1 H1 B1 G' H' B' → SqT K H' a us ∧ SqT K H' b ws := fun G' H' B' e2 => ⟨(Le.of_sub (B := B) (B' := B) e2.sub (Int.le_refl _)).seqT (e2.le.seqT ha), (Le.of_sub (B := B) (B' := B) e2.sub (Int.le_refl _)).seqT (e2.le.seqT hb)⟩
    obtain ⟨k1, k2⟩ := kp _ _ _ (Ext.refl e1.sub)
    exact ⟨a, b, us, ws, rfl, .inr ⟨k1, k2, fun D nD => lc_zipD (Sq := SqT K) hij e1 (en.mono e1.le) q kp hr hw hl hz hs hk D nD⟩⟩
/-- tuple(list) -/
theorem we_tupleL (h : Wa K E e t ρ B fun ds B1 => ∃ xs : List D, ds = [.lst xs] ∧ k (.tup xs) B1) :
    We K E e (tCB (fun xs H Q => ∃ p ys, xs = [.ref p] ∧ ((SqL K H p ys ∧ ∀ l, H l = none → Q (.ref l) (upd H l (.tup ys))) ∨ (SqT K H p ys ∧ Q (.ref p) H))) t) ρ B k :=
  we_cb fun σ H G Q s en x q => h σ H G Q s en x fun ds vs B1 G1 H1 ⟨xs, ed, h1⟩ e1 r1 => q ds vs B1 G1 H1 (fun ws H2 G2 Q2 s2 r2 q2 => by
    subst ed
    obtain ⟨v, _, rfl, ⟨a, us, rfl, ha, hr⟩, rfl⟩ := r2
    exact ⟨a, us, rfl, .inl ⟨SqL.of (s2 _ _ ha), fun l nl => q2 _ _ _ _ _ h1 (Ext.new s2 nl) ⟨l, us, rfl, SqT.of upd_same, hr.mono (Ext.new (B := B1) s2 nl).le⟩⟩⟩) e1 r1
theorem RepL.ints_inv {G : Hp} : ∀ {ns : List Int} {vs : List V}, RepL K G B (ns.map D.int) vs → vs = ns.map V.int
  | [], _, h => h
  | n :: ns, _, ⟨v, r, e, h, hr⟩ => by rw [e, show v = _ from h, RepL.ints_inv (ns := ns) hr]; rfl
end
end AW

set_option linter.all false
set_option maxRecDepth 100000
set_option maxHeartbeats 4000000
namespace AW
open PySem PySem.Spec PyProof.Rows L2 RZ
variable [Tbs]
section
/-- ends of a statement, the owned list's items told -/
structure KO where
  nx : List (Option D) → List D → Int → Prop := fun _ _ _ => False
  rt : KD
  bk : List (Option D) → List D → Int → Prop := fun _ _ _ => False
  ct : List (Option D) → List D → Int → Prop := fun _ _ _ => False
def OOk (K : PySem.W.Frag) (k : List (Option D) → List D → Int → Prop) (Q : L2.St → Hp → Prop) (i : Nat) (p : Addr) (G0 H0 : Hp) (B0 : Int) : Prop := ∀ ρ ds σ B G H vs, k ρ ds B → Ext G0 H0 B0 G H B → EnvR K G B ρ σ → σ[i]? = some (some (.ref p)) → G p = none → H p = some (.lst vs) → RepL K G B ds vs → Q σ H
structure OEnds (K : PySem.W.Frag) (κ : KO) (Dn : Ends) (i : Nat) (p : Addr) (G0 H0 : Hp) (B0 : Int) : Prop where
  nx : OOk K κ.nx Dn.nx i p G0 H0 B0
  rt : KOk K κ.rt Dn.rt G0 H0 B0
  bk : OOk K κ.bk Dn.bk i p G0 H0 B0
  ct : OOk K κ.ct Dn.ct i p G0 H0 B0
variable {K : PySem.W.Frag} {E E' E1 : XK} {e : EW} {ρ : List (Option D)} {B : Int} {k : KD} {κ : KS} {κo : KO} {ta tb tl te : TE} {t : TA} {s us ts tbody : TS} {pr : Pr} {i j sl : Nat} {ds : List D} {g : TG}
theorem set_id {α : Type} {σ : List α} {i : Nat} {a : α} (h : σ[i]? = some a) : σ.set i a = σ := by
  apply List.ext_getElem?
  intro m
  rw [List.getElem?_set]
  by_cases hj : i = m
  · subst hj
    rw [if_pos rfl, h]
    split
    · rfl
    · have := (List.getElem?_eq_some_iff.mp h).1
      omega
  · rw [if_neg hj]
def del (H : Hp) (p : Addr) : Hp := fun b => if b = p then none else H b
theorem delD_ne {H : Hp} {p b : Addr} (h : b ≠ p) : del H p b = H b := if_neg h
theorem Ext.base {G0 H0 G1 H1 : Hp} {B0 B1 : Int} {p : Addr} (ex : Ext G0 H0 B0 G1 H1 B1) (np : H0 p = none) (gp : G1 p = none) : Ext G0 H0 B0 G1 (del H1 p) B1 := ⟨ex.le, fun a o z => by
  rw [delD_ne (ne_of_none z gp)]; exact ex.sub _ _ z, fun a o z n t => by
  rw [delD_ne (ne_of_none z np)]; exact ex.fr _ _ z n t⟩
theorem OOk.ext {k : List (Option D) → List D → Int → Prop} {Q : L2.St → Hp → Prop} {p : Addr} {G0 H0 G1 H1 : Hp} {B0 B1 : Int} (h : OOk K k Q i p G0 H0 B0) (ex : Ext G0 H0 B0 G1 H1 B1) : OOk K k Q i p G1 H1 B1 := fun ρ ds σ B G H vs hk e2 => h ρ ds σ B G H vs hk (ex.trans e2)
theorem OEnds.ext {p : Addr} {Dn : Ends} {G0 H0 G1 H1 : Hp} {B0 B1 : Int} (h : OEnds K κo Dn i p G0 H0 B0) (ex : Ext G0 H0 B0 G1 H1 B1) : OEnds K κo Dn i p G1 H1 B1 := ⟨h.nx.ext ex, h.rt.ext ex, h.bk.ext ex, h.ct.ext ex⟩
/-- the rounds' state -/
def OSt (K : PySem.W.Frag) (I : List (Option D) → List D → Int → Prop) (i : Nat) (p : Addr) (G1 H1 : Hp) (B1 : Int) (σ' : L2.St) (H' : Hp) : Prop := ∃ ρ' ds' B' G' vs', I ρ' ds' B' ∧ Ext G1 H1 B1 G' H' B' ∧ EnvR K G' B' ρ' σ' ∧ σ'[i]? = some (some (.ref p)) ∧ G' p = none ∧ H' p = some (.lst vs') ∧ RepL K G' B' ds' vs'
theorem OSt.ok {I : List (Option D) → List D → Int → Prop} {p : Addr} {G1 H1 : Hp} {B1 : Int} : OOk K I (OSt K I i p G1 H1 B1) i p G1 H1 B1 := fun ρ ds σ B G H vs hk e2 en hp gp hL hr => ⟨ρ, ds, B, G, vs, hk, e2, en, hp, gp, hL, hr⟩
theorem wg_unl {n : Nat} {gs : TGs} {k : KE'} (hn : ds.length = n) (h : Wgs K gs ds ρ B k) : Wg K (gUnl K n gs) (.lst ds) ρ B k := fun v σ H G Q s en r q => by
  obtain ⟨a, vs, rfl, ha, hr⟩ := r
  exact ⟨a, vs, rfl, SqL.of (s _ _ ha), by rw [← hr.length]; exact hn, h vs σ H G Q s en hr q⟩
theorem un65 {k : Nat} {A : Around} (r : Room k A) : A.units + 65 < cLine := by have := r.un; omega
end
end AW

set_option linter.all false
set_option maxRecDepth 100000
set_option maxHeartbeats 4000000
namespace AW
open PySem PySem.Spec PyProof.Rows L2 RZ
variable [Tbs]
section
variable {K : PySem.W.Frag} {E E' E1 : XK} {e : EW} {ρ : List (Option D)} {B : Int} {k : KD} {κ : KS} {ta tb tl te : TE} {t : TA} {i j : Nat}
theorem map_stepP {α : Type} {f : α → D} {xs : List α} {n : Nat} {x : α} (hx : xs[n]? = some x) : (xs.map f).take n ++ [f x] = (xs.map f).take (n + 1) := by
  rw [List.take_add_one, List.getElem?_map, hx]
  rfl
end
end AW

set_option linter.all false
set_option maxRecDepth 100000
set_option maxHeartbeats 4000000
namespace AW
open PySem PySem.Spec PyProof.Rows L2 RZ
variable [Tbs]
section
variable {K : PySem.W.Frag} {E E' E1 : XK} {e : EW} {ρ : List (Option D)} {B : Int} {k : KD} {κ : KS} {ta tb tl te : TE} {tt : TT} {t : TA} {ts : TS} {g : TG} {i j l sl : Nat} {t1 t2 : TI}
theorem ws_orL (h : Ws K E e (tFor t1 g ts) ρ B κ) : Ws K E e (tFor (iOr t1 t2) g ts) ρ B κ := fun σ H G Dn s en x q => .inl (h σ H G Dn s en x q)
theorem ws_orR (h : Ws K E e (tFor t2 g ts) ρ B κ) : Ws K E e (tFor (iOr t1 t2) g ts) ρ B κ := fun σ H G Dn s en x q => .inr (h σ H G Dn s en x q)
/-- a list, or a tuple -/
def seqD (b : Bool) (ds : List D) : D := if b = true then .tup ds else .lst ds
theorem ws_for_seq (b : Bool) (h : We K E e tl ρ B fun d B1 => ∃ ds, d = seqD b ds ∧ ∃ I : Nat → KE', I 0 ρ B1 ∧ (∀ i x ρ' B', ds[i]? = some x → I i ρ' B' → Wg K g x ρ' B' fun ρ2 B2 => Ws K E e ts ρ2 B2 { nx := I (i + 1), rt := κ.rt, bk := κ.nx, ct := I (i + 1) }) ∧ ∀ ρ' B', I ds.length ρ' B' → κ.nx ρ' B') :
    Ws K E e (tFor (iOr (iList K tl) (iTup K tl)) g ts) ρ B κ := by
  cases b with
  | false => exact ws_orL (ws_for_list h)
  | true => exact ws_orR (ws_for_tup h)
theorem filt_step {α : Type} {p : α → Bool} {f : α → D} {xs : List α} {n : Nat} {x : α} (hx : xs[n]? = some x) : ((xs.take (n + 1)).filter p).map f = ((xs.take n).filter p).map f ++ (if p x = true then [f x] else []) := by
  rw [List.take_add_one, hx, List.filter_append, List.map_append]
  congr 1
  cases h : p x <;> simp [h]
end
end AW

set_option linter.all false
set_option maxRecDepth 100000
set_option maxHeartbeats 4000000
namespace AW
open PySem PySem.Spec PyProof.Rows L2 RZ
variable [Tbs]
section
variable {K : PySem.W.Frag} {E E' E1 : XK} {e : EW} {ρ : List (Option D)} {B : Int} {k : KD} {κ : KS} {ta tb tl te : TE} {tt : TT} {t : TA} {ts : TS} {g : TG} {sO sI : Nat}
variable {tlo thi : TO}
theorem ro_ixSq {ds : List D} {i : Int} {d : D} (b : Bool) (h : atI ds i = some d) (hk : k d B) : Ro K E e (rIx K) (seqD b ds) (.int i) B k := fun x y H G Q s r1 r2 ex q => by
  cases b with
  | false => exact .inl (ro_ixL (E := E) (e := e) h hk x y H G Q s r1 r2 ex q)
  | true => exact .inr (.inl (ro_ixT (E := E) (e := e) h hk x y H G Q s r1 r2 ex q))
variable {i j : Nat} {ds : List D} {us tbody : TS} {κo : KO} {tb : TE}
theorem RepL.set {G : Hp} {d : D} {v : V} (rv : Rep K G B d v) : ∀ {ds : List D} {vs : List V} (n : Nat), RepL K G B ds vs → RepL K G B (ds.set n d) (vs.set n v)
  | [], _, _, h => by rw [show _ = _ from h]; exact rfl
  | _ :: _, _, 0, ⟨_, w, rfl, _, h1⟩ => ⟨v, w, rfl, rv, h1⟩
  | _ :: _, _, n + 1, ⟨v0, w, rfl, h0, h1⟩ => ⟨v0, w.set n v, rfl, h0, RepL.set rv n h1⟩
end
end AW

set_option linter.all false
set_option maxRecDepth 100000
set_option maxHeartbeats 4000000
namespace AW
open PySem PySem.Spec PyProof.Rows L2 RZ
variable [Tbs]
section
variable {K : PySem.W.Frag} {E E' E1 : XK} {e : EW} {ρ : List (Option D)} {B : Int} {k : KD} {κ : KS} {κo : KO} {ta tb tl te : TE} {tt : TT} {t : TA} {ts us : TS} {g : TG} {i j sl : Nat} {ds : List D}
end
end AW

set_option linter.all false
set_option maxRecDepth 100000
set_option maxHeartbeats 4000000
namespace AW
open PySem PySem.Spec PyProof.Rows L2 RZ
variable [Tbs]
section
variable {K : PySem.W.Frag} {E E' E1 : XK} {e : EW} {ρ : List (Option D)} {B : Int} {k : KD} {κ : KS} {κo : KO} {ta tb tl te : TE} {tt : TT} {t : TA} {ts us : TS} {g : TG} {i j sl : Nat} {ds : List D}
theorem RepL.eraseIdx {G : Hp} : ∀ {ds : List D} {vs : List V} (n : Nat), RepL K G B ds vs → RepL K G B (ds.eraseIdx n) (vs.eraseIdx n)
  | [], _, _, h => by rw [show _ = _ from h]; exact rfl
  | _ :: _, _, 0, ⟨_, w, rfl, _, h1⟩ => h1
  | _ :: _, _, n + 1, ⟨v0, w, rfl, h0, h1⟩ => ⟨v0, w.eraseIdx n, rfl, h0, RepL.eraseIdx n h1⟩
end
end AW

set_option linter.all false
set_option maxRecDepth 100000
set_option maxHeartbeats 4000000
namespace AW
open PySem PySem.Spec PyProof.Rows L2 RZ
variable [Tbs]
section
variable {K : PySem.W.Frag} {E E' E1 : XK} {e : EW} {ρ : List (Option D)} {B : Int} {k : KD} {κ : KS} {κo : KO} {ta tb tl te : TE} {tt : TT} {t : TA} {ts us : TS} {g : TG} {i j sl : Nat} {ds : List D} {pr : Pr}
end
end AW

set_option linter.all false
set_option maxRecDepth 100000
set_option maxHeartbeats 4000000
namespace AW
open PySem PySem.Spec PyProof.Rows L2 RZ LamX
variable [Tbs]
def IsDT (o : HO) : Prop := ∃ kvs, o = .dT kvs ∨ ∃ ob, o = .frz ob (.dT kvs)
/-- what may change of dicts with tuple keys: locked or not -/
structure Lw (f : Bool) (G : Hp) (B : Int) (G' : Hp) (B' : Int) : Prop where
  b : B ≤ B'
  keep : ∀ a o, G a = some o → ¬ IsPen o → ¬ IsDT o → G' a = some o
  pen : ∀ a k l c s r, G a = some (.dK (penE k l c s r)) → ∃ s' r', G' a = some (.dK (penE k l c s' r')) ∧ (0 ≤ s → s ≤ B → 0 ≤ s' ∧ s' ≤ B')
  tb : Tabs Tbs.T G → Tabs Tbs.T G'
  dt : ∀ a kvs, (G a = some (.dT kvs) ∨ ∃ o, G a = some (.frz o (.dT kvs))) → (G' a = some (.dT kvs) ∨ ∃ o, G' a = some (.frz o (.dT kvs)))
  un : f = true → ∀ a kvs, G a = some (.dT kvs) → G' a = some (.dT kvs)
theorem nodt_tup {xs : List V} : ¬ IsDT (.tup xs) := fun ⟨_, h⟩ => by rcases h with h | ⟨_, h⟩ <;> cases h
theorem nodt_lst {xs : List V} : ¬ IsDT (.lst xs) := fun ⟨_, h⟩ => by rcases h with h | ⟨_, h⟩ <;> cases h
theorem nodt_ftup {o : Obj} {xs : List V} : ¬ IsDT (.frz o (.tup xs)) := fun ⟨_, h⟩ => by rcases h with h | ⟨_, h⟩ <;> cases h
theorem nodt_flst {o : Obj} {xs : List V} : ¬ IsDT (.frz o (.lst xs)) := fun ⟨_, h⟩ => by rcases h with h | ⟨_, h⟩ <;> cases h
section
variable {K : PySem.W.Frag} {G G' : Hp} {B B' : Int} {f : Bool}
theorem Lw.seqT {a : Addr} {xs : List V} (l : Lw f G B G' B') (h : SqT K G a xs) : SqT K G' a xs := by
  rcases h with (h | ⟨o, h⟩) | h
  · exact .inl (.inl (l.keep _ _ h nopen_tup nodt_tup))
  · exact .inl (.inr ⟨o, l.keep _ _ h nopen_frz nodt_ftup⟩)
  · exact .inr h
theorem Lw.seqL {a : Addr} {xs : List V} (l : Lw f G B G' B') (h : SqL K G a xs) : SqL K G' a xs := by
  rcases h with (h | ⟨o, h⟩) | h
  · exact .inl (.inl (l.keep _ _ h nopen_lst nodt_lst))
  · exact .inl (.inr ⟨o, l.keep _ _ h nopen_frz nodt_flst⟩)
  · exact .inr h
end
end AW

set_option linter.all false
set_option maxRecDepth 100000
set_option maxHeartbeats 4000000
namespace AW
open PySem PySem.Spec PyProof.Rows L2 RZ LamX
variable [Tbs]
def kD : Key → D
  | .inl i => .int i
  | .inr x => .str x
section
variable {K : PySem.W.Frag} {G H : Hp} {B : Int}
theorem RepL.keys : ∀ ks : List Key, RepL K G B (ks.map kD) (ks.map kV)
  | [] => rfl
  | .inl _ :: r => ⟨_, _, rfl, rfl, RepL.keys r⟩
  | .inr _ :: r => ⟨_, _, rfl, rfl, RepL.keys r⟩
end
section
variable {K : PySem.W.Frag} {E E' E1 : XK} {e : EW} {ρ : List (Option D)} {B : Int} {k : KD} {κ : KS} {κo : KO} {ta tb tc tl te : TE} {tt : TT} {t : TA} {ts us tbody : TS} {g : TG} {i j sl : Nat} {ds : List D} {pr : Pr}
end
end AW

set_option linter.all false
set_option maxRecDepth 100000
set_option maxHeartbeats 4000000
namespace AW
open PySem PySem.Spec PyProof.Rows L2 RZ LamX
variable [Tbs]
def chS (x : Str) : List Str := x.cps.toList.map fun c => ⟨#[c]⟩
theorem chS_get {x : Str} {i : Nat} {c : Nat} (h : x.cps[i]? = some c) : (chS x)[i]? = some (⟨#[c]⟩ : Str) := by
  unfold chS
  rw [List.getElem?_map, Array.getElem?_toList, h]
  rfl
theorem chS_len (x : Str) : (chS x).length = x.cps.size := by unfold chS; rw [List.length_map, Array.length_toList]
section
variable {K : PySem.W.Frag} {E E' E1 : XK} {e : EW} {ρ : List (Option D)} {B : Int} {k : KD} {κ : KS} {κo : KO} {ta tb tc tl te ti : TE} {tt : TT} {t : TA} {ts us tbody : TS} {g : TG} {i j sl : Nat} {ds : List D} {pr : Pr}
theorem ro_inS {a b : Str} (h : k (.bl (!(Builtin.Str.occurrences b a 0 b.length 1).isEmpty)) B) : Ro K E e (fun x y H Q => ∃ i j, x = .str i ∧ y = .str j ∧ Q (.bl (!(Builtin.Str.occurrences j i 0 j.length 1).isEmpty)) H) (.str a) (.str b) B k := fun x y H G Q s r1 r2 _ q => by
  rw [show x = _ from r1, show y = _ from r2]
  exact ⟨a, b, rfl, rfl, q _ _ _ _ _ h (Ext.refl s) rfl⟩
end
end AW

set_option linter.all false
set_option maxRecDepth 100000
set_option maxHeartbeats 4000000
namespace AW
open PySem PySem.Spec PyProof.Rows L2 RZ LamX
variable [Tbs]
inductive OC where
  | dict (l : List (List Key × Int))
  | list (es : List D)
  | dictD (l : List (List Key × D))
  | lckD (od : Obj) (l : List (List Key × D)) (vs : List V)
  | obj (C dx : Addr) (fs : List (Str × D))
def kvI (e : List Key × Int) : List Key × V := (e.1, .int e.2)
def Own1 (K : PySem.W.Frag) (G H : Hp) (B : Int) (a : Addr) : OC → Prop
  | .dict l => H a = some (.dT (l.map kvI))
  | .list es => ∃ vs, H a = some (.lst vs) ∧ RepL K G B es vs
  | .dictD l => ∃ vs, H a = some (.dT ((l.map (·.1)).zip vs)) ∧ RepL K G B (l.map (·.2)) vs
  | .lckD od l vs => H a = some (.frz od (.dT ((l.map (·.1)).zip vs))) ∧ RepL K G B (l.map (·.2)) vs
  | .obj C dx fs => ∃ vs, H a = some (.ins C dx ((fs.map (·.1)).zip vs)) ∧ RepL K G B (fs.map (·.2)) vs
def NoH0 (G0 H0 : Hp) (a : Addr) : Prop := ∀ o, H0 a = some o → G0 a = none → NTb o → False
structure Owns (K : PySem.W.Frag) (G0 H0 G H : Hp) (B : Int) (O : List (Addr × OC)) : Prop where
  nd : (O.map (·.1)).Nodup
  at_ : ∀ x ∈ O, NoH0 G0 H0 x.1 ∧ G x.1 = none ∧ Own1 K G H B x.1 x.2
structure KX where
  nx : List (Option D) → List (Addr × OC) → Int → Prop := fun _ _ _ => False
  rt : KD
  bk : List (Option D) → List (Addr × OC) → Int → Prop := fun _ _ _ => False
  ct : List (Option D) → List (Addr × OC) → Int → Prop := fun _ _ _ => False
section
variable {K : PySem.W.Frag}
theorem Own1.ext {G H G1 H1 : Hp} {B B1 : Int} {a : Addr} {o : OC} (h : Own1 K G H B a o) (g : G a = none) (e : Ext G H B G1 H1 B1) : Own1 K G1 H1 B1 a o ∧ G1 a = none := by
  cases o with
  | dict l =>
    obtain ⟨z1, z2⟩ := e.fr a _ h g ⟨(fun _ z => nomatch z), fun _ z => nomatch z⟩
    exact ⟨z1, z2⟩
  | list es =>
    obtain ⟨vs, h, hr⟩ := h
    obtain ⟨z1, z2⟩ := e.fr a _ h g ⟨(fun _ z => nomatch z), fun _ z => nomatch z⟩
    exact ⟨⟨vs, z1, hr.mono e.le⟩, z2⟩
  | dictD l =>
    obtain ⟨vs, h, hr⟩ := h
    obtain ⟨z1, z2⟩ := e.fr a _ h g ⟨(fun _ z => nomatch z), fun _ z => nomatch z⟩
    exact ⟨⟨vs, z1, hr.mono e.le⟩, z2⟩
  | lckD od l vs =>
    obtain ⟨h, hr⟩ := h
    obtain ⟨z1, z2⟩ := e.fr a _ h g ⟨(fun _ z => nomatch z), fun _ z => nomatch z⟩
    exact ⟨⟨z1, hr.mono e.le⟩, z2⟩
  | obj C dx fs =>
    obtain ⟨vs, h, hr⟩ := h
    obtain ⟨z1, z2⟩ := e.fr a _ h g ⟨(fun _ z => nomatch z), fun _ z => nomatch z⟩
    exact ⟨⟨vs, z1, hr.mono e.le⟩, z2⟩
theorem Owns.ext {G0 H0 G H G1 H1 : Hp} {B B1 : Int} {O : List (Addr × OC)} (h : Owns K G0 H0 G H B O) (e : Ext G H B G1 H1 B1) : Owns K G0 H0 G1 H1 B1 O :=
  ⟨h.nd, fun x hx => let ⟨a, b, c⟩ := h.at_ x hx; ⟨a, (c.ext b e).2, (c.ext b e).1⟩⟩
def XEnd (K : PySem.W.Frag) (k : List (Option D) → List (Addr × OC) → Int → Prop) (Q : L2.St → Hp → Prop) (G0 H0 : Hp) (B0 : Int) : Prop := ∀ ρ O σ B G H, k ρ O B → Ext G0 H0 B0 G H B → EnvR K G B ρ σ → Owns K G0 H0 G H B O → Q σ H
structure XEnds (K : PySem.W.Frag) (κ : KX) (Dn : Ends) (G0 H0 : Hp) (B0 : Int) : Prop where
  nx : XEnd K κ.nx Dn.nx G0 H0 B0
  rt : KOk K κ.rt Dn.rt G0 H0 B0
  bk : XEnd K κ.bk Dn.bk G0 H0 B0
  ct : XEnd K κ.ct Dn.ct G0 H0 B0
def WOw (K : PySem.W.Frag) (E : XK) (e : EW) (t : TS) (ρ : List (Option D)) (B : Int) (O : List (Addr × OC)) (κ : KX) : Prop :=
  ∀ σ H G Dn G0 H0 B0, EnvR K G B ρ σ → Owns K G0 H0 G H B O → Ext G0 H0 B0 G H B → XOk K E e G0 H0 B0 → XEnds K κ Dn G0 H0 B0 → t Dn σ H
variable {E E' : XK} {e : EW} {ρ : List (Option D)} {B : Int} {k : KD} {κ : KS} {κx : KX} {ta tb tc tl te ti : TE} {tt : TT} {t : TA} {s ts us tbody : TS} {g : TG} {i j n : Nat} {ds : List D} {O : List (Addr × OC)} {p : Addr} {l : List (List Key × Int)} {es : List D}
theorem wx_own (h : WOw K E e s ρ B [] { nx := fun ρ' _ B' => κ.nx ρ' B', rt := κ.rt }) : Ws K E e s ρ B κ := fun σ H G Dn sb en x q =>
  h σ H G Dn G H B en ⟨List.nodup_nil, fun x hx => nomatch hx⟩ (Ext.refl sb) x ⟨fun ρ' O' σ' B' G' H' hz ex en' _ => q.nx ρ' σ' B' G' H' hz ex en', q.rt, fun _ _ _ _ _ _ z => z.elim, fun _ _ _ _ _ _ z => z.elim⟩
theorem wx_seq (h : WOw K E e s ρ B O { κx with nx := fun ρ' O' B' => WOw K E e us ρ' B' O' κx }) : WOw K E e (tSeq s us) ρ B O κx := fun σ H G Dn G0 H0 B0 en ow ex x q =>
  h σ H G { Dn with nx := us Dn } G0 H0 B0 en ow ex x ⟨fun ρ' O' σ' B' G' H' hz ex' en' ow' => hz σ' H' G' Dn G0 H0 B0 en' ow' ex' x q, q.rt, q.bk, q.ct⟩
theorem wx_cut (J : List (Option D) → List (Addr × OC) → Int → Prop) (h1 : WOw K E e s ρ B O { κx with nx := J }) (h2 : ∀ ρ' O' B', J ρ' O' B' → WOw K E e us ρ' B' O' κx) : WOw K E e (tSeq s us) ρ B O κx :=
  wx_seq fun σ H G Dn G0 H0 B0 en ow ex x q => h1 σ H G Dn G0 H0 B0 en ow ex x ⟨fun ρ' O' σ' B' G' H' hz ex' en' ow' => q.nx ρ' O' σ' B' G' H' (h2 _ _ _ hz) ex' en' ow', q.rt, q.bk, q.ct⟩
theorem wx_next (h : κx.nx ρ O B) : WOw K E e tNext ρ B O κx := fun σ H G Dn G0 H0 B0 en ow ex x q => q.nx _ _ _ _ _ _ h ex en ow
theorem wx_ws (h : Ws K E e s ρ B { nx := fun ρ' B' => κx.nx ρ' O B', rt := κx.rt, bk := fun ρ' B' => κx.bk ρ' O B', ct := fun ρ' B' => κx.ct ρ' O B' }) : WOw K E e s ρ B O κx := fun σ H G Dn G0 H0 B0 en ow ex x q =>
  h σ H G Dn ex.sub en (x.ext ex) ⟨fun ρ' σ' B' G' H' hz e1 en' => q.nx ρ' O σ' B' G' H' hz (ex.trans e1) en' (ow.ext e1), q.rt.ext ex, fun ρ' σ' B' G' H' hz e1 en' => q.bk ρ' O σ' B' G' H' hz (ex.trans e1) en' (ow.ext e1), fun ρ' σ' B' G' H' hz e1 en' => q.ct ρ' O σ' B' G' H' hz (ex.trans e1) en' (ow.ext e1)⟩
theorem none_sub {G H : Hp} {a : Addr} (s : Sub G H) (h : H a = none) : G a = none := by
  cases z : G a with
  | none => rfl
  | some u => rw [s _ _ z] at h; cases h
theorem Own1.some {G H : Hp} {a : Addr} {o : OC} (h : Own1 K G H B a o) : ∃ v, H a = some v := by
  cases o with
  | dict l => exact ⟨_, h⟩
  | list es => obtain ⟨vs, h, _⟩ := h; exact ⟨_, h⟩
  | dictD l => obtain ⟨vs, h, _⟩ := h; exact ⟨_, h⟩
  | lckD od l vs => exact ⟨_, h.1⟩
  | obj C dx fs => obtain ⟨vs, h, _⟩ := h; exact ⟨_, h⟩
theorem noH0 {G0 H0 G H : Hp} {B0 : Int} {a : Addr} (ex : Ext G0 H0 B0 G H B) (ha : H a = none) : NoH0 G0 H0 a := fun o z y nt => by
  rw [(ex.fr a o z y nt).1] at ha; cases ha
/-- a new thing owned -/
theorem owns_cons {G0 H0 G H : Hp} {B0 : Int} {a : Addr} {o : OC} {u : HO} (ow : Owns K G0 H0 G H B O) (ex : Ext G0 H0 B0 G H B) (ha : H a = none) (h1 : Own1 K G (upd H a u) B a o) : Owns K G0 H0 G (upd H a u) B ((a, o) :: O) := by
  refine ⟨List.nodup_cons.mpr ⟨fun hm => ?_, ow.nd⟩, fun x hx => ?_⟩
  · obtain ⟨c, hc, ec⟩ := List.mem_map.mp hm
    obtain ⟨v, hv⟩ := (ow.at_ c hc).2.2.some
    have ec : c.1 = a := ec
    rw [ec, ha] at hv; cases hv
  · rcases List.mem_cons.mp hx with rfl | hx
    · exact ⟨noH0 ex ha, none_sub ex.sub ha, h1⟩
    · obtain ⟨z1, z2, z3⟩ := ow.at_ x hx
      exact ⟨z1, z2, (z3.ext z2 (Ext.hid (B := B) ex.sub ha)).1⟩
theorem Ext.chgN {G0 H0 G H : Hp} {B0 : Int} {a : Addr} {o : HO} (ex : Ext G0 H0 B0 G H B) (np : NoH0 G0 H0 a) (gp : G a = none) : Ext G0 H0 B0 G (upd H a o) B :=
  ⟨ex.le, fun b u z => by rw [upd_ne (ne_of_none z gp)]; exact ex.sub _ _ z, fun b u z n t => by rw [upd_ne (fun w => by subst w; exact np u z n t)]; exact ex.fr _ _ z n t⟩
/-- a thing owned is changed -/
theorem owns_set {G0 H0 G H : Hp} {a : Addr} {o o' : OC} {u : HO} (ow : Owns K G0 H0 G H B O) (hn : O[n]? = some (a, o)) (h1 : Own1 K G (upd H a u) B a o') : Owns K G0 H0 G (upd H a u) B (O.set n (a, o')) := by
  have hl := (List.getElem?_eq_some_iff.mp hn).1
  have he : (O.set n (a, o')).map (·.1) = O.map (·.1) := by
    apply List.ext_getElem?
    intro m
    rw [List.getElem?_map, List.getElem?_map, List.getElem?_set]
    by_cases q : n = m
    · subst q; rw [if_pos rfl, if_pos hl, hn]; rfl
    · rw [if_neg q]
  refine ⟨by rw [he]; exact ow.nd, fun x hx => ?_⟩
  obtain ⟨m, hm⟩ := List.mem_iff_getElem?.mp hx
  rw [List.getElem?_set] at hm
  by_cases q : n = m
  · subst q
    rw [if_pos rfl, if_pos hl] at hm
    cases hm
    obtain ⟨z1, z2, _⟩ := ow.at_ _ (List.mem_of_getElem? hn)
    exact ⟨z1, z2, h1⟩
  · rw [if_neg q] at hm
    obtain ⟨z1, z2, z3⟩ := ow.at_ _ (List.mem_of_getElem? hm)
    have ne : x.1 ≠ a := fun w => by
      have e1 : (O.map (·.1))[n]? = some a := by rw [List.getElem?_map, hn]; rfl
      have e2 : (O.map (·.1))[m]? = some a := by rw [List.getElem?_map, hm, ← w]; rfl
      have hm' := (List.getElem?_eq_some_iff.mp hm).1
      exact q ((List.getElem?_inj (by rw [List.length_map]; exact hl) ow.nd).mp (e1.trans e2.symm))
    refine ⟨z1, z2, ?_⟩
    revert z3
    cases x.2 with
    | dict l => intro z3; show upd H a u x.1 = _; rw [upd_ne ne]; exact z3
    | list es => rintro ⟨vs, z3, z4⟩; exact ⟨vs, by rw [upd_ne ne]; exact z3, z4⟩
    | dictD l => rintro ⟨vs, z3, z4⟩; exact ⟨vs, by rw [upd_ne ne]; exact z3, z4⟩
    | lckD od l vs => rintro ⟨z3, z4⟩; exact ⟨by rw [upd_ne ne]; exact z3, z4⟩
    | obj C dx fs => rintro ⟨vs, z3, z4⟩; exact ⟨vs, by rw [upd_ne ne]; exact z3, z4⟩
/-- a thing owned is told -/
theorem owns_tell {G0 H0 G H : Hp} {B0 : Int} {a : Addr} {o : OC} {u : HO} (ow : Owns K G0 H0 G H B ((a, o) :: O)) (ex : Ext G0 H0 B0 G H B) (hu : H a = some u) : Ext G0 H0 B0 (upd G a u) H B ∧ Owns K G0 H0 (upd G a u) H B O ∧ Le G B (upd G a u) B := by
  obtain ⟨np, gp, _⟩ := ow.at_ (a, o) (List.mem_cons_self ..)
  have np : NoH0 G0 H0 a := np
  have gp : G a = none := gp
  have le : Le G B (upd G a u) B := Le.of_sub (fun b o z => by rw [upd_ne (ne_of_none z gp)]; exact z) (Int.le_refl _)
  refine ⟨⟨ex.le.trans le, fun b o z => ?_, fun b o z n t => ?_⟩, ⟨(List.nodup_cons.mp ow.nd).2, fun x hx => ?_⟩, le⟩
  · by_cases w : b = a
    · subst w; rw [upd_same] at z; cases z; exact hu
    · rw [upd_ne w] at z; exact ex.sub _ _ z
  · rw [upd_ne (fun w => by subst w; exact np o z n t)]; exact ex.fr _ _ z n t
  · obtain ⟨z1, z2, z3⟩ := ow.at_ x (List.mem_cons_of_mem _ hx)
    have ne : x.1 ≠ a := fun w => (List.nodup_cons.mp ow.nd).1 (List.mem_map.mpr ⟨x, hx, w⟩)
    refine ⟨z1, by rw [upd_ne ne]; exact z2, ?_⟩
    revert z3
    cases x.2 with
    | dict l => exact fun z3 => z3
    | list es => rintro ⟨vs, z3, z4⟩; exact ⟨vs, z3, z4.mono le⟩
    | dictD l => rintro ⟨vs, z3, z4⟩; exact ⟨vs, z3, z4.mono le⟩
    | lckD od l vs => rintro ⟨z3, z4⟩; exact ⟨z3, z4.mono le⟩
    | obj C dx fs => rintro ⟨vs, z3, z4⟩; exact ⟨vs, z3, z4.mono le⟩
theorem wx_newlist (hk : ∀ p, κx.nx (ρ.set i (some (.val (.ref p)))) ((p, .list []) :: O) B) : WOw K E e (tAsg (tLst tNil) (gName i)) ρ B O κx := fun σ H G Dn G0 H0 B0 en ow ex x q => by
  refine ⟨by decide, fun p hp => ?_⟩
  exact q.nx _ _ _ B G _ (hk p) (ex.trans (Ext.hid ex.sub hp)) (EnvR.set (d := .val (.ref p)) (v := .ref p) rfl i en) (owns_cons ow ex hp ⟨[], upd_same, rfl⟩)
theorem own_at {G0 H0 G H : Hp} {o : OC} (ow : Owns K G0 H0 G H B O) (hn : O[n]? = some (p, o)) : NoH0 G0 H0 p ∧ G p = none ∧ Own1 K G H B p o := ow.at_ (p, o) (List.mem_of_getElem? hn)
/-- l.append(x) -/
theorem wx_app (hn : O[n]? = some (p, .list es)) (hi : ρ[i]? = some (some (.val (.ref p)))) (h : We K E e ta ρ B fun d B1 => es.length < sizeLine ∧ κx.nx ρ (O.set n (p, .list (es ++ [d]))) B1) : WOw K E e (tDrop (tBM K "list" rAppend (tVar i) (tCons ta tNil))) ρ B O κx := fun σ H G Dn G0 H0 B0 en ow ex x q => by
  obtain ⟨v0, hv0, e0⟩ := en.get hi
  rw [show v0 = _ from e0] at hv0
  obtain ⟨np, gp, vs, hL, hr⟩ := own_at ow hn
  refine ⟨.ref p, hv0, .inl ⟨rfl, vs, SqL.of hL⟩, h σ H G _ ex.sub en (x.ext ex) fun d v B1 G1 H1 ⟨hl, hk⟩ e1 r1 => ?_⟩
  obtain ⟨z1, z2⟩ := e1.fr p _ hL gp ⟨(fun _ z => nomatch z), fun _ z => nomatch z⟩
  refine ⟨p, vs, v, rfl, rfl, z1, by rw [← hr.length]; exact hl, ?_⟩
  exact q.nx _ _ σ B1 G1 _ hk ((ex.trans e1).chgN np z2) (en.mono e1.le) (owns_set (ow.ext e1) hn ⟨_, upd_same, (hr.mono e1.le).append ⟨v, [], rfl, r1, rfl⟩⟩)
theorem putK_new {l : List (List Key × Int)} {c : List Key} {z : Int} (hc : ∀ x ∈ l, x.1 ≠ c) : putK (l.map kvI) c (.int z) = (l ++ [(c, z)]).map kvI := by
  unfold putK
  rw [if_neg (by
    rw [List.any_eq_true]
    rintro ⟨y, hy, hd⟩
    obtain ⟨x, hx, rfl⟩ := List.mem_map.mp hy
    exact hc x hx (of_decide_eq_true hd)), List.map_append]
  rfl
/-- the list owned is told from here on -/
theorem wx_tell (hi : ρ[i]? = some (some (.val (.ref p)))) (h : WOw K E e s (ρ.set i (some (.lst es))) B O κx) : WOw K E e s ρ B ((p, .list es) :: O) κx := fun σ H G Dn G0 H0 B0 en ow ex x q => by
  obtain ⟨v0, hv0, e0⟩ := en.get hi
  rw [show v0 = _ from e0] at hv0
  obtain ⟨np, gp, vs, hL, hr⟩ := own_at (n := 0) ow rfl
  obtain ⟨ex2, ow2, le⟩ := owns_tell ow ex hL
  have en2 := EnvR.set (d := .lst es) (v := .ref p) ⟨p, vs, rfl, upd_same, hr.mono le⟩ i (en.mono le)
  rw [set_id hv0] at en2
  exact h σ H _ Dn G0 H0 B0 en2 ow2 ex2 x q
end
end AW

set_option linter.all false
set_option maxRecDepth 100000
set_option maxHeartbeats 4000000
namespace AW
open PySem PySem.Spec PyProof.Rows L2 RZ LamX
variable [Tbs]
section
variable {K : PySem.W.Frag} {E E' : XK} {e : EW} {ρ : List (Option D)} {B : Int} {k : KD} {κ : KS} {κx : KX} {ta tb tc tl te ti : TE} {tt : TT} {t : TA} {s ts us tbody : TS} {g : TG} {i j n : Nat} {ds : List D} {O : List (Addr × OC)} {p : Addr} {l : List (List Key × Int)} {es : List D}
theorem wx_ifT {c : TT} (h : Wt K E e c ρ B fun b B1 => (b = true → WOw K E e ts ρ B1 O κx) ∧ (b = false → WOw K E e us ρ B1 O κx)) : WOw K E e (tIfS c ts us) ρ B O κx := fun σ H G Dn G0 H0 B0 en ow ex x q =>
  h σ H G _ ex.sub en (x.ext ex) fun b B1 G1 H1 ⟨h1, h2⟩ e1 => by
    cases b with
    | true => rw [if_pos rfl]; exact h1 rfl σ H1 G1 Dn G0 H0 B0 (en.mono e1.le) (ow.ext e1) (ex.trans e1) x q
    | false => rw [if_neg Bool.false_ne_true]; exact h2 rfl σ H1 G1 Dn G0 H0 B0 (en.mono e1.le) (ow.ext e1) (ex.trans e1) x q
abbrev IX := Nat → List (Option D) → List (Addr × OC) → Int → Prop
/-- the state of a loop -/
def PX (K : PySem.W.Frag) (I : IX) (G0 H0 : Hp) (B0 : Int) (n : Nat) (σ : L2.St) (H : Hp) : Prop := ∃ ρ' O' B' G', I n ρ' O' B' ∧ Ext G0 H0 B0 G' H B' ∧ EnvR K G' B' ρ' σ ∧ Owns K G0 H0 G' H B' O'
theorem px_step {I : IX} {G0 H0 : Hp} {B0 : Int} {Dn : Ends} {m : Nat} {d : D} {v : V} {σ : L2.St} {H : Hp} {ρ' : List (Option D)} {O' : List (Addr × OC)} {B' : Int} {G' : Hp} (hI : I m ρ' O' B') (e0 : Ext G0 H0 B0 G' H B') (en : EnvR K G' B' ρ' σ) (ow : Owns K G0 H0 G' H B' O') (rv : Rep K G' B' d v)
    (x : XOk K E e G0 H0 B0) (q : XEnds K κx Dn G0 H0 B0) (hs : Wg K g d ρ' B' fun ρ2 B2 => WOw K E e tbody ρ2 B2 O' { nx := I (m + 1), rt := κx.rt, bk := κx.nx, ct := I (m + 1) }) :
    g v σ H fun σ2 H2 => tbody { Dn with nx := PX K I G0 H0 B0 (m + 1), ct := PX K I G0 H0 B0 (m + 1), bk := Dn.nx } σ2 H2 := by
  refine hs v σ H G' _ e0.sub en rv fun ρ2 σ2 B2 G2 H2 h2 e3 en3 => ?_
  exact h2 σ2 H2 G2 _ G0 H0 B0 en3 (ow.ext e3) (e0.trans e3) x ⟨fun ρ3 O3 σ3 B3 G3 H3 h3 e4 en4 ow4 => ⟨ρ3, O3, B3, G3, h3, e4, en4, ow4⟩, q.rt, q.nx, fun ρ3 O3 σ3 B3 G3 H3 h3 e4 en4 ow4 => ⟨ρ3, O3, B3, G3, h3, e4, en4, ow4⟩⟩
/-- for x in l, l a variable's list -/
theorem wx_for_list (hj : ρ[j]? = some (some (.lst ds))) (h : ∀ u : V, ∃ I : IX, I 0 (ρ.set j (some (.at_ u (.lst ds)))) O B ∧ (∀ n ρ' O' B', I n ρ' O' B' → ρ'[j]? = some (some (.at_ u (.lst ds)))) ∧ (∀ n d ρ' O' B', ds[n]? = some d → I n ρ' O' B' → Wg K g d ρ' B' fun ρ2 B2 => WOw K E e tbody ρ2 B2 O' { nx := I (n + 1), rt := κx.rt, bk := κx.nx, ct := I (n + 1) }) ∧ ∀ ρ' O' B', I ds.length ρ' O' B' → κx.nx ρ' O' B') :
    WOw K E e (tFor (iList K (tVar j)) g tbody) ρ B O κx := fun σ H G Dn G0 H0 B0 en ow ex x q => by
  obtain ⟨v0, hv0, a, vs, rfl, ha, hr⟩ := en.get hj
  obtain ⟨I, i0, hI, hs, hd⟩ := h (.ref a)
  have en0 := EnvR.set (d := .at_ (.ref a) (.lst ds)) (v := .ref a) ⟨rfl, a, vs, rfl, ha, hr⟩ j en
  rw [set_id hv0] at en0
  have ha2 : SqL K H a vs := SqL.of (ex.sub _ _ ha)
  refine ⟨.ref a, hv0, a, rfl, ⟨vs, ha2⟩, ?_⟩
  refine ⟨fun i m σ H => m = ds.length - i ∧ i ≤ ds.length ∧ PX K I G0 H0 B0 i σ H, ⟨ds.length, by simp, Nat.zero_le _, ρ.set j (some (.at_ (.ref a) (.lst ds))), O, B, G, i0, ex, en0, ow⟩, ?_⟩
  rintro i m σ' H' ⟨rfl, hi, ρ', O', B', G', hI', e0, en2, ow2⟩
  obtain ⟨v1, hv1, rv1⟩ := en2.get (hI i ρ' O' B' hI')
  obtain ⟨ev, a', vs', ea, ha', hr'⟩ := rv1
  rw [ev] at ea
  cases ea
  have hq : SqL K H' a vs' := SqL.of (e0.sub _ _ ha')
  have hlen := hr'.length
  by_cases hlt : i < ds.length
  · refine .inr ⟨⟨vs', vs'[i], hq, by simp [show i < vs'.length by omega]⟩, PX K I G0 H0 B0 (i + 1), fun σ2 H2 p' => ⟨ds.length - (i + 1), by omega, rfl, hlt, p'⟩, fun y H'' hy => ?_⟩
    obtain ⟨eH, hy⟩ := hy
    subst eH
    obtain ⟨d, hdx, rx⟩ := hr'.get' (hy vs' hq)
    exact px_step hI' e0 en2 ow2 rx x q (hs i d ρ' O' B' hdx hI')
  · have e1 : i = ds.length := by omega
    subst e1
    exact .inl ⟨⟨vs', hq, by omega⟩, q.nx _ _ _ _ _ _ (hd _ _ _ hI') e0 en2 ow2⟩
end
end AW

set_option linter.all false
set_option maxRecDepth 100000
set_option maxHeartbeats 4000000
namespace AW
open PySem PySem.Spec PyProof.Rows L2 RZ LamX
variable [Tbs]
section
variable {K : PySem.W.Frag} {E E' : XK} {e : EW} {ρ : List (Option D)} {B : Int} {k : KD} {κ : KS} {κx : KX} {ta tb tc tl te ti : TE} {tt : TT} {t : TA} {s ts us tbody : TS} {g : TG} {i j n : Nat} {ds : List D} {O : List (Addr × OC)} {p : Addr} {l : List (List Key × D)} {es : List D} {r : R2}
end
end AW

set_option linter.all false
set_option maxRecDepth 100000
set_option maxHeartbeats 4000000
namespace AW
open PySem PySem.Spec PyProof.Rows L2 RZ LamX
variable [Tbs]
section
variable {K : PySem.W.Frag} {E E' E1 : XK} {e : EW} {ρ : List (Option D)} {B : Int} {k : KD} {ta tb tc : TE} {t : TA} {r r' : R2}
theorem RepL.intsV {G : Hp} : ∀ (ns : List Int) {vs : List V}, RepL K G B (ns.map D.int) vs → vs = ns.map V.int
  | [], _, h => h
  | z :: r, _, ⟨v, w, e, h1, h2⟩ => by rw [e, show v = _ from h1, RepL.intsV r h2]; rfl
/-- a op b op' c -/
theorem we_chain (h : We K E e ta ρ B fun d1 B1 => We K E e tb ρ B1 fun d2 B2 => Ro K E e r d1 d2 B2 fun z B3 => ∃ b, z = .bl b ∧ (b = true → We K E e tc ρ B3 fun d3 B4 => Ro K E e r' d2 d3 B4 k) ∧ (b = false → k (.bl false) B3)) : We K E e (tChain r r' ta tb tc) ρ B k := fun σ H G Q s en x q =>
  h σ H G _ s en x fun d1 v1 B1 G1 H1 h1 e1 r1 => h1 σ H1 G1 _ e1.sub (en.mono e1.le) (x.ext e1) fun d2 v2 B2 G2 H2 h2 e2 r2 =>
    h2 v1 v2 H2 G2 _ e2.sub (r1.mono e2.le) r2 (x.ext (e1.trans e2)) fun z w B3 G3 H3 ⟨b, ez, ht, hf⟩ e3 r3 => by
      subst ez
      refine ⟨b, r3, ?_⟩
      cases b with
      | true =>
        rw [if_pos rfl]
        exact ht rfl σ H3 G3 _ e3.sub (en.mono (e1.trans (e2.trans e3)).le) (x.ext (e1.trans (e2.trans e3))) fun d3 v3 B4 G4 H4 h4 e4 r4 => h4 v2 v3 H4 G4 Q e4.sub (r2.mono (e3.trans e4).le) r4 (x.ext (e1.trans (e2.trans (e3.trans e4)))) (q.ext (e1.trans (e2.trans (e3.trans e4))))
      | false =>
        rw [if_neg Bool.false_ne_true]
        exact q _ _ _ _ _ (hf rfl) (e1.trans (e2.trans e3)) rfl
end
end AW

set_option linter.all false
set_option maxRecDepth 100000
set_option maxHeartbeats 4000000
namespace AW
open PySem PySem.Spec PyProof.Rows L2 RZ LamX
variable [Tbs]
section
variable {K : PySem.W.Frag}
variable {E E' : XK} {e : EW} {ρ : List (Option D)} {B : Int} {k : KD} {κ : KS} {κx : KX} {ta tb tc tl te ti : TE} {tt : TT} {t : TA} {s ts us tbody : TS} {g : TG} {i j n : Nat} {ds : List D} {O : List (Addr × OC)} {p : Addr} {l : List (List Key × Int)} {es : List D}
end
end AW

set_option linter.all false
set_option maxRecDepth 100000
set_option maxHeartbeats 4000000
namespace AW
open PySem PySem.Spec PyProof.Rows L2 RZ LamX
variable [Tbs]
section
variable {K : PySem.W.Frag} {E E' : XK} {e : EW} {ρ : List (Option D)} {B : Int} {k : KD} {κ : KS} {ta tb tc : TE} {t : TA} {pr : Pr} {C : Addr} {kl : KL}
end
section
variable {K : PySem.W.Frag} {E E' : XK} {e : EW} {ρ : List (Option D)} {B : Int} {κx : KX} {tbody : TS} {g : TG} {i j n : Nat} {ds : List D} {O : List (Addr × OC)}
end
/-- the type that every value of a D has -/
def TyD (K : PySem.W.Frag) (d : D) (t : Value) : Prop := ∀ v G H B, Sub G H → Rep K G B d v → TyX K H v t
theorem tyD_tup {K : PySem.W.Frag} {xs : List D} : TyD K (.tup xs) (.type "tuple") := fun v G H B s r => by
  obtain ⟨a, us, rfl, ha, hr⟩ := r
  have hb := (Le.of_sub (B := B) (B' := B) s (Int.le_refl _)).seqT ha
  rcases hb with (hb | ⟨o, hb⟩) | ⟨o, its, n, hk, hc, _⟩
  · exact .base (.tup hb)
  · exact .fTuple hb
  · exact .kTuple hk hc
theorem tyD_lst {K : PySem.W.Frag} {xs : List D} : TyD K (.lst xs) (.type "list") := fun v G H B s r => by
  obtain ⟨a, us, rfl, ha, hr⟩ := r
  exact .base (.lst (s _ _ ha))
theorem tyD_str {K : PySem.W.Frag} {z : Str} : TyD K (.str z) (.type "str") := fun v G H B s r => by
  rw [show v = _ from r]
  exact .base (.str _)
section
variable {K : PySem.W.Frag} {E : XK} {e : EW} {ρ : List (Option D)} {B : Int} {k : KD} {ta : TE} {t : Value} {b : Bool} {c1 c2 c3 : String}
/-- isinstance(x, (c1, c2)) -/
theorem we_isiT2 (h : We K E e ta ρ B fun d B1 => TyD K d t ∧ PySem.W.kitAny K t [.type c1, .type c2] = some b ∧ k (.bl b) B1) : We K E e (tCB (rIsiT K) (tCons ta (tCons (tTup (tCons (tC (.ty c1)) (tCons (tC (.ty c2)) tNil))) tNil))) ρ B k := fun σ H G Q s en x q =>
  h σ H G _ s en x fun d v B1 G1 H1 ⟨ht, hb, hk⟩ e1 r1 => ⟨Nat.le_trans (show 2 ≤ 3 from by decide) (by decide : 3 ≤ sizeLine), fun p hp => by
    have e2 := e1.trans (Ext.hid (o := .tup [.ty c1, .ty c2]) e1.sub hp)
    exact ⟨v, p, _, t, _, b, rfl, upd_same, .cons (.ty c1) (.cons (.ty c2) .nil), ht v G1 _ B1 e2.sub r1, hb, q _ _ _ _ _ hk e2 rfl⟩⟩
/-- isinstance(x, (c1, c2, c3)) -/
theorem we_isiT3 (h : We K E e ta ρ B fun d B1 => TyD K d t ∧ PySem.W.kitAny K t [.type c1, .type c2, .type c3] = some b ∧ k (.bl b) B1) : We K E e (tCB (rIsiT K) (tCons ta (tCons (tTup (tCons (tC (.ty c1)) (tCons (tC (.ty c2)) (tCons (tC (.ty c3)) tNil)))) tNil))) ρ B k := fun σ H G Q s en x q =>
  h σ H G _ s en x fun d v B1 G1 H1 ⟨ht, hb, hk⟩ e1 r1 => ⟨(by decide : 3 ≤ sizeLine), fun p hp => by
    have e2 := e1.trans (Ext.hid (o := .tup [.ty c1, .ty c2, .ty c3]) e1.sub hp)
    exact ⟨v, p, _, t, _, b, rfl, upd_same, .cons (.ty c1) (.cons (.ty c2) (.cons (.ty c3) .nil)), ht v G1 _ B1 e2.sub r1, hb, q _ _ _ _ _ hk e2 rfl⟩⟩
/-- isinstance(x, c) -/
theorem we_isi1 (h : We K E e ta ρ B fun d B1 => TyD K d t ∧ PySem.W.kitOne K t (.type c1) = some b ∧ k (.bl b) B1) : We K E e (tCB (rIsi K) (tCons ta (tCons (tC (.ty c1)) tNil))) ρ B k := fun σ H G Q s en x q =>
  h σ H G _ s en x fun d v B1 G1 H1 ⟨ht, hb, hk⟩ e1 r1 => ⟨v, _, t, _, b, rfl, .ty c1, ht v G1 _ B1 e1.sub r1, hb, q _ _ _ _ _ hk e1 rfl⟩
/-- isinstance(x, C), C an own class -/
theorem we_isiC {C : Addr} (h : We K E e ta ρ B fun d B1 => TyD K d t ∧ PySem.W.kitOne K t (.ref C) = some b ∧ k (.bl b) B1) : We K E e (tCB (rIsi K) (tCons ta (tCons (tC (.ref C)) tNil))) ρ B k := fun σ H G Q s en x q =>
  h σ H G _ s en x fun d v B1 G1 H1 ⟨ht, hb, hk⟩ e1 r1 => ⟨v, _, t, _, b, rfl, .own C, ht v G1 _ B1 e1.sub r1, hb, q _ _ _ _ _ hk e1 rfl⟩
theorem we_lenStr {ta : TA} (h : Wa K E e ta ρ B fun ds B1 => ∃ z : Str, ds = [.str z] ∧ z.length ≤ sizeLine ∧ k (.int z.length) B1) : We K E e (tCB (fun xs H Q => ∃ z, xs = [.str z] ∧ z.length ≤ sizeLine ∧ Q (.int z.length) H) ta) ρ B k :=
  we_cb fun σ H G Q s en x q => h σ H G Q s en x fun ds vs B1 G1 H1 ⟨z, ed, hz, hk⟩ e1 r1 => q ds vs B1 G1 H1 (fun ws H2 G2 Q2 s2 r2 q2 => by
    subst ed
    obtain ⟨v, _, rfl, rv, rfl⟩ := r2
    rw [show v = _ from rv]
    exact ⟨z, rfl, hz, q2 _ _ _ _ _ hk (Ext.refl s2) rfl⟩) e1 r1
theorem we_sum {ta : TA} (h : Wa K E e ta ρ B fun ds B1 => ∃ ns : List Int, ds = [.lst (ns.map D.int)] ∧ k (.int ns.sum) B1) : We K E e (tCB (rSum K) ta) ρ B k :=
  we_cb fun σ H G Q s en x q => h σ H G Q s en x fun ds vs B1 G1 H1 ⟨ns, ed, hk⟩ e1 r1 => q ds vs B1 G1 H1 (fun ws H2 G2 Q2 s2 r2 q2 => by
    subst ed
    obtain ⟨v, _, rfl, ⟨a, us, rfl, ha, hr⟩, rfl⟩ := r2
    have ev : us = ns.map V.int := RepL.intsV ns hr
    subst ev
    exact ⟨a, ns, rfl, SqL.of (s2 _ _ ha), q2 _ _ _ _ _ hk (Ext.refl s2) rfl⟩) e1 r1
end
section
variable {K : PySem.W.Frag} {E E' : XK} {e : EW} {ρ : List (Option D)} {B : Int} {κx : KX} {tbody : TS} {g : TG} {i j n : Nat} {ds : List D} {O : List (Addr × OC)} {C : Addr} {f : Str}
end
end AW

set_option linter.all false
set_option maxRecDepth 100000
set_option maxHeartbeats 4000000
namespace AW
open PySem PySem.Spec PyProof.Rows L2 RZ LamX
variable [Tbs]
section
variable {K : PySem.W.Frag} {E E' : XK} {e : EW} {ρ : List (Option D)} {B : Int} {k : KD} {κ : KS} {κx : KX} {ta tb tc tl te ti : TE} {tt : TT} {t : TA} {s ts us tbody : TS} {g : TG} {i j n : Nat} {ds : List D} {O : List (Addr × OC)} {p : Addr} {es : List D}
end
end AW

set_option linter.all false
set_option maxRecDepth 100000
set_option maxHeartbeats 4000000
namespace AW
open PySem PySem.Spec PyProof.Rows L2 RZ LamX
variable [Tbs]
section
variable {K : PySem.W.Frag} {E E' : XK} {e : EW} {ρ : List (Option D)} {B : Int} {k : KD} {κ : KS} {κx : KX} {ta tb tc tl te ti : TE} {tt : TT} {t : TA} {s ts us tbody : TS} {g : TG} {i j n : Nat} {ds : List D} {O : List (Addr × OC)} {p : Addr} {es : List D}
end
section
variable {K : PySem.W.Frag} {E E' E1 : XK} {e : EW} {ρ : List (Option D)} {B : Int} {k : KD} {κ : KS} {ta tb tl te : TE} {t : TA} {i j : Nat}
/-- [f(x, y) for x, y in a tuple of pairs] -/
theorem we_lc_pairT (hij : i ≠ j) (h : We K E e tl ρ B fun d B1 => ∃ xs : List (D × D), d = .tup (xs.map fun z => .tup [z.1, z.2]) ∧ xs.length < sizeLine ∧ ∃ f : D → D → D, (∀ (n : Nat) (x y : D), xs[n]? = some (x, y) → ∀ k' : KD, k' (f x y) B1 → We K E1 noE te ((((ρ.set j none).set i none).set i (some x)).set j (some y)) B1 k') ∧ k (.lst (xs.map fun z => f z.1 z.2)) B1) :
    We K E e (tLc (iTup K tl) (gTup K 2 (gCons (gName i) (gCons (gName j) gNil))) tYes te [i, j]) ρ B k := fun σ H G Q s en x q =>
  h σ H G _ s en x fun d v B1 G1 H1 ⟨xs, ed, hz, f, hs, hk⟩ e1 r1 => by
    subst ed
    obtain ⟨a, us, rfl, ha, hr⟩ := r1
    have hlen : us.length = xs.length := by rw [← hr.length, List.length_map]
    have en1 := en.mono e1.le
    refine ⟨a, rfl, ⟨us, (Le.of_sub (B := B) (B' := B) e1.sub (Int.le_refl _)).seqT ha⟩, fun L nL => ?_⟩
    refine lc_tup (xs := us) (fun n H' => LcOk K (fun out B => out = (xs.map fun z => f z.1 z.2).take n ∧ B = B1) L G1 H1 B1 H') (lc_start e1.sub nL ⟨by simp, rfl⟩) (fun i H' _ z => by
      obtain ⟨out, B', G', acc, hI, e2, _⟩ := z
      exact (Le.of_sub (B := B) (B' := B) e2.sub (Int.le_refl _)).seqT (e2.le.seqT ha)) ?_ ?_
    · intro n y H' hi hP
      obtain ⟨dx, hdx, rx⟩ := hr.get' hi
      rw [List.getElem?_map] at hdx
      have hn : n < xs.length := by rw [← hlen]; exact (List.getElem?_eq_some_iff.mp hi).1
      have hx : xs[n]? = some xs[n] := List.getElem?_eq_getElem hn
      rw [hx] at hdx
      generalize xs[n] = z at hx hdx
      obtain ⟨zx, zy⟩ := z
      cases hdx
      obtain ⟨out, B', G', acc, ⟨eo, eB⟩, e2, gL, hL, hr2⟩ := hP
      subst eB
      obtain ⟨T, ws, rfl, hT, v, _, rfl, rv, w, _, rfl, rw_, rfl⟩ := rx
      have hT2 : SqT K H' T [v, w] := (Le.of_sub (B := B) (B' := B) e2.sub (Int.le_refl _)).seqT (e2.le.seqT hT)
      refine ⟨T, [v, w], rfl, hT2, rfl, v, [w], rfl, w, [], rfl, rfl, ?_, ?_⟩
      · show ((((((σ.set j none).set i none).set i (some v)).set j (some w)).set j none).set i none) = (σ.set j none).set i none
        exact set_two σ hij (some v) (some v) (some w) none
      · have en2 : EnvR K G' B' ((((ρ.set j none).set i none).set i (some zx)).set j (some zy)) ((((σ.set j none).set i none).set i (some v)).set j (some w)) := EnvR.set (rw_.mono e2.le) j (EnvR.set (rv.mono e2.le) i (EnvR.wipe1 i (EnvR.wipe1 j (en1.mono e2.le))))
        refine hs n zx zy hx (fun d B2 => d = f zx zy ∧ B2 = B') ⟨rfl, rfl⟩ _ _ G' _ e2.sub en2 XOk.no fun d u B4 G4 H4 ⟨ed, eB⟩ e4 r4 => ?_
        subst ed eB
        obtain ⟨z1, z2⟩ := e4.fr L _ hL gL ⟨(fun _ z => nomatch z), fun _ z => nomatch z⟩
        have hlen2 : acc.length < sizeLine := by
          rw [← hr2.length, eo, List.length_take, List.length_map]
          omega
        refine ⟨acc, z1, hlen2, out ++ [f zx zy], B4, G4, acc ++ [u], ⟨by rw [eo]; exact map_stepP (f := fun z : D × D => f z.1 z.2) hx, rfl⟩, ?_, z2, upd_same, (hr2.mono e4.le).append ⟨u, [], rfl, r4, rfl⟩⟩
        have eA := e2.trans e4
        refine ⟨eA.le, fun a o z => ?_, fun a o z n t => ?_⟩
        · have : a ≠ L := fun q => by rw [q, z2] at z; cases z
          rw [upd_ne this]; exact eA.sub _ _ z
        · have : a ≠ L := ne_of_none z nL
          rw [upd_ne this]
          exact eA.fr _ _ z n t
    · intro H' hz2
      refine lc_end e1 nL hz2 (fun out B' hI => ?_) q
      obtain ⟨eo, eB⟩ := hI
      subst eB
      have : (xs.map fun z => f z.1 z.2).take us.length = xs.map fun z => f z.1 z.2 := List.take_of_length_le (by rw [List.length_map]; omega)
      rw [eo, this]
      exact hk
end
end AW

set_option linter.all false
set_option maxRecDepth 100000
set_option maxHeartbeats 4000000
namespace AW
open PySem PySem.Spec PyProof.Rows L2 RZ LamX
variable [Tbs]
section
variable {K : PySem.W.Frag} {E E' E1 : XK} {e : EW} {ρ : List (Option D)} {B : Int} {k : KD} {κ : KS} {κx : KX} {ta tb tc tl te ti : TE} {tt : TT} {t : TA} {s ts us tbody : TS} {g g1 g2 : TG} {i j n sl : Nat} {ds : List D} {O : List (Addr × OC)} {p : Addr} {es : List D} {t1 t2 : TI}
/-- [f(c) for c in text], a long one -/
theorem we_lc_strL (h : We K E e te ρ B fun d B1 => ∃ (x : Str) (f : Str → D), d = .str x ∧ (chS x).length < sizeLine ∧
    (∀ c ∈ chS x, ∀ k' : KD, k' (f c) B1 → We K E1 noE tl ((ρ.set sl none).set sl (some (.str c))) B1 k') ∧ k (.lst ((chS x).map f)) B1) :
    We K E e (tLc (iStr te) (gName sl) tYes tl [sl]) ρ B k := fun σ H G Q s en x q =>
  h σ H G _ s en x fun d v B1 G1 H1 ⟨z, f, ed, hl, he, hk⟩ e1 r1 => by
    subst ed
    rw [show v = _ from r1]
    refine ⟨z, rfl, fun L nL => ?_⟩
    refine lc_it walk_str (fun n H' => LcOk K (fun out B' => out.length ≤ n ∧ (out = ((chS z).take n).map f ∧ B' = B1)) L G1 H1 B1 H') (lc_start e1.sub nL ⟨Nat.le_refl _, rfl, rfl⟩) (fun _ _ _ _ => trivial) ?_ ?_
    · intro n y H' H'' hn hz ⟨eH, c, hc, ey⟩
      subst eH ey
      have hcc := chS_get hc
      have hm := List.mem_of_getElem? hcc
      have hlt := (List.getElem?_eq_some_iff.mp hcc).1
      refine lc_step (E1 := E1) (ρ := ρ) (I := fun n out B' => out = ((chS z).take n).map f ∧ B' = B1) (d := .str ⟨#[c]⟩) nL e1.sub (en.mono e1.le) hz (by omega) rfl (fun out B' ⟨eo, eB⟩ => ?_)
      subst eB
      refine wt_yes ⟨fun _ => he _ hm _ ⟨?_, rfl⟩, fun h => nomatch h⟩
      rw [List.take_add_one, hcc, Option.toList_some, List.map_append, eo]; rfl
    · intro H' hz
      refine lc_end e1 nL hz (fun out B' ⟨_, eo, eB⟩ => ?_) q
      rw [← chS_len, List.take_length] at eo
      rw [eo, eB]
      exact hk
end
end AW

set_option linter.all false
set_option maxRecDepth 100000
set_option maxHeartbeats 4000000
namespace AW
open PySem PySem.Spec PyProof.Rows L2 RZ LamX
variable [Tbs]
section
variable {K : PySem.W.Frag} {E E' E1 : XK} {e : EW} {ρ : List (Option D)} {B : Int} {k : KD} {κ : KS} {κx : KX} {ta tb tc tl te ti : TE} {tt : TT} {t : TA} {s ts us tbody : TS} {g g1 g2 : TG} {i j n sl : Nat} {ds : List D} {O : List (Addr × OC)} {p : Addr} {es : List D} {t1 t2 : TI} {pr : Pr}
end
end AW

set_option linter.all false
set_option maxHeartbeats 2000000
namespace AW
open PySem PySem.Spec PyProof.Rows L2
variable [Tbs]
section
variable {P : Program} {w : World} {K : PySem.W.Frag} {mg : Str → Option Value} {base : Heap} {E E1 : XK} {e : EW} {ρ : List (Option D)} {B : Int} {k : KD} {tl te : TE} {tt : TT} {i j : Nat}
theorem lc_stepP {I : Nat → List D → Int → Prop} {L : Addr} {G1 H1 : Hp} {B1 : Int} {σ : L2.St} {n : Nat} {x y : D} {v : V} {H' : Hp} (hij : i ≠ j) (nL : H1 L = none) (sub1 : Sub G1 H1) (en : EnvR K G1 B1 ρ σ) (h : LcOk K (fun out B => out.length ≤ n ∧ I n out B) L G1 H1 B1 H') (hi : n < sizeLine) (rv : Rep K G1 B1 (.tup [x, y]) v)
    (hs : ∀ out B', I n out B' → Wt K E1 noE tt ((((ρ.set j none).set i none).set i (some x)).set j (some y)) B' fun b B3 => (b = true → We K E1 noE te ((((ρ.set j none).set i none).set i (some x)).set j (some y)) B3 fun y B4 => I (n + 1) (out ++ [y]) B4) ∧ (b = false → I (n + 1) out B3)) :
    gTup K 2 (gCons (gName i) (gCons (gName j) gNil)) v (wipe σ [i, j]) H' fun σ2 H2 => wipe σ2 [i, j] = wipe σ [i, j] ∧ tt σ2 H2 fun b H3 => if b = true then te σ2 H3 fun y H4 => ∃ acc, H4 L = some (.lst acc) ∧ acc.length < sizeLine ∧ LcOk K (fun out B => out.length ≤ n + 1 ∧ I (n + 1) out B) L G1 H1 B1 (upd H4 L (.lst (acc ++ [y]))) else LcOk K (fun out B => out.length ≤ n + 1 ∧ I (n + 1) out B) L G1 H1 B1 H3 := by
  obtain ⟨out, B', G', acc, ⟨hl, hI⟩, e2, gL, hL, hr⟩ := h
  obtain ⟨T, ws, rfl, hT, v, _, rfl, rv, w, _, rfl, rw_, rfl⟩ := rv
  have hT2 : SqT K H' T [v, w] := (Le.of_sub (B := B1) (B' := B1) e2.sub (Int.le_refl _)).seqT (e2.le.seqT hT)
  refine ⟨T, [v, w], rfl, hT2, rfl, v, [w], rfl, w, [], rfl, rfl, ?_, ?_⟩
  · show ((((((σ.set j none).set i none).set i (some v)).set j (some w)).set j none).set i none) = (σ.set j none).set i none
    exact set_two σ hij (some v) (some v) (some w) none
  · have en2 : EnvR K G' B' ((((ρ.set j none).set i none).set i (some x)).set j (some y)) ((((σ.set j none).set i none).set i (some v)).set j (some w)) := EnvR.set (rw_.mono e2.le) j (EnvR.set (rv.mono e2.le) i (EnvR.wipe1 i (EnvR.wipe1 j (en.mono e2.le))))
    refine hs out B' hI _ H' G' _ e2.sub en2 XOk.no fun b B3 G3 H3 h3 e3 => ?_
    cases b with
    | true =>
      rw [if_pos rfl]
      refine h3.1 rfl _ H3 G3 _ e3.sub (en2.mono e3.le) XOk.no fun y w B4 G4 H4 h4 e4 r4 => ?_
      obtain ⟨z1, z2⟩ := (e3.trans e4).fr L _ hL gL ⟨(fun _ z => nomatch z), fun _ z => nomatch z⟩
      refine ⟨acc, z1, by rw [← hr.length]; omega, out ++ [y], B4, G4, acc ++ [w], ⟨by rw [List.length_append, List.length_singleton]; omega, h4⟩, ?_, z2, upd_same, (hr.mono (e3.trans e4).le).append ⟨w, [], rfl, r4, rfl⟩⟩
      have eA := e2.trans (e3.trans e4)
      refine ⟨eA.le, fun a o z => ?_, fun a o z n t => ?_⟩
      · have : a ≠ L := fun q => by rw [q, z2] at z; cases z
        rw [upd_ne this]; exact eA.sub _ _ z
      · have : a ≠ L := ne_of_none z nL
        rw [upd_ne this]
        exact eA.fr _ _ z n t
    | false =>
      rw [if_neg Bool.false_ne_true]
      obtain ⟨z1, z2⟩ := e3.fr L _ hL gL ⟨(fun _ z => nomatch z), fun _ z => nomatch z⟩
      exact ⟨out, B3, G3, acc, ⟨Nat.le_succ_of_le hl, h3.2 rfl⟩, e2.trans e3, z2, z1, hr.mono e3.le⟩
end
end AW

set_option linter.all false
set_option maxHeartbeats 2000000
namespace AW
open PySem PySem.Spec PyProof.Rows L2
variable [Tbs]
section
variable {P : Program} {w : World} {K : PySem.W.Frag} {mg : Str → Option Value} {base : Heap} {E E1 : XK} {e : EW} {ρ : List (Option D)} {B : Int} {k : KD} {ti : TE} {i j : Nat}
end
end AW

set_option linter.all false
set_option maxHeartbeats 2000000
namespace AW
open PySem PySem.Spec PyProof.Rows L2
variable [Tbs]
section
variable {P : Program} {w : World} {K : PySem.W.Frag} {mg : Str → Option Value} {base : Heap} {E E1 : XK} {e : EW} {ρ : List (Option D)} {B : Int} {k : KD} {κ : KS} {t : TA} {g : TG} {tb tbody : TS}
end
end AW

set_option linter.all false
set_option maxHeartbeats 2000000
namespace AW
open PySem PySem.Spec PyProof.Rows L2
variable [Tbs]
section
variable {P : Program} {w : World} {K : PySem.W.Frag} {mg : Str → Option Value} {base : Heap} {E E1 : XK} {e : EW} {ρ : List (Option D)} {B : Int} {k : KD} {ta tb tc ti : TE}
end
end AW

set_option linter.all false
set_option maxHeartbeats 2000000
namespace AW
open PySem PySem.Spec PyProof.Rows L2
variable [Tbs]
section
variable {P : Program} {w : World} {K : PySem.W.Frag} {mg : Str → Option Value} {base : Heap} {E E1 : XK} {e : EW} {ρ : List (Option D)} {B : Int} {k : KD} {ta tb tc ti : TE}
end
end AW

set_option linter.all false
set_option maxHeartbeats 2000000
namespace AW
open PySem PySem.Spec PyProof.Rows L2
variable [Tbs]
section
variable {P : Program} {w : World} {K : PySem.W.Frag} {mg : Str → Option Value} {base : Heap} {E E1 : XK} {e : EW} {ρ : List (Option D)} {B : Int} {k : KD} {κ : KS} {ta tb tc ti : TE} {i : Nat}
end
end AW

set_option linter.all false
set_option maxRecDepth 100000
set_option maxHeartbeats 4000000
namespace AW
open PySem PySem.Spec PyProof.Rows L2 RZ LamX
variable [Tbs]
section
variable {K : PySem.W.Frag}
variable {E E' : XK} {e : EW} {ρ : List (Option D)} {B : Int} {k : KD} {κ : KS} {κx : KX} {ta tb tc tl te ti : TE} {tt : TT} {t : TA} {s ts us tbody : TS} {g : TG} {i j n m sl : Nat} {ds : List D} {O : List (Addr × OC)} {p a : Addr} {es : List D}
end
end AW
namespace AW
open PySem PySem.Spec PyProof.Rows L2 RZ LamX
variable [Tbs]
end AW

set_option linter.all false
set_option maxRecDepth 100000
set_option maxHeartbeats 4000000
namespace AW
open PySem PySem.Spec PyProof.Rows L2 RZ LamX
variable [Tbs]
section
variable {K : PySem.W.Frag} {E E' : XK} {e : EW} {ρ : List (Option D)} {B : Int} {k : KD} {κ : KS} {κx : KX} {ta tb tc td tl te ti : TE} {tt : TT} {t : TA} {s ts us tbody : TS} {g : TG} {i j n m sl : Nat} {ds : List D} {O : List (Addr × OC)} {p a : Addr} {es : List D}
end
end AW

set_option linter.all false
set_option maxRecDepth 100000
set_option maxHeartbeats 4000000
namespace AW
open PySem PySem.Spec PyProof.Rows L2 RZ LamX
variable [Tbs]
section
variable {K : PySem.W.Frag}
variable {E E' : XK} {e : EW} {ρ : List (Option D)} {B : Int} {k : KD} {κ : KS} {κx : KX} {ta tb tc td tl te ti : TE} {tt : TT} {t : TA} {s ts us tbody : TS} {g : TG} {i j n m sl s1 s2 : Nat} {ds : List D} {O : List (Addr × OC)} {p a : Addr} {es : List D} {l : List (List L2.Key × D)}
end
end AW

set_option linter.all false
set_option maxRecDepth 100000
set_option maxHeartbeats 4000000
namespace AW
open PySem PySem.Spec PyProof.Rows L2 RZ LamX
variable [Tbs]
section
variable {K : PySem.W.Frag} {E E' : XK} {e : EW} {ρ : List (Option D)} {B : Int} {k : KD} {κ : KS} {κx : KX} {ta tb tc td tl te ti : TE} {tt : TT} {t : TA} {s ts us tbody : TS} {g : TG} {i j n m sl s1 s2 : Nat} {ds : List D} {O : List (Addr × OC)} {p a : Addr} {es : List D} {l : List (List L2.Key × D)}
end
end AW
namespace AW
open PySem PySem.Spec PyProof.Rows L2 RZ LamX
variable [Tbs]
end AW

set_option linter.all false
set_option maxRecDepth 100000
set_option maxHeartbeats 4000000
namespace AW
open PySem PySem.Spec PyProof.Rows L2 RZ LamX
variable [Tbs]
section
variable {K : PySem.W.Frag} {E E' : XK} {e : EW} {ρ : List (Option D)} {B : Int} {k : KD} {κ : KS} {ta tb tc : TE} {pr : Pr}
end
end AW
namespace AW
open PySem PySem.Spec PyProof.Rows L2 RZ LamX
variable [Tbs]
end AW

set_option linter.all false
set_option maxRecDepth 100000
set_option maxHeartbeats 4000000
namespace AW
open PySem PySem.Spec PyProof.Rows L2 RZ LamX
variable [Tbs]
abbrev OwL := List (Addr × OC)
abbrev KW := D → OwL → Int → Prop
abbrev KWL := List D → OwL → Int → Prop
abbrev KWB := Bool → OwL → Int → Prop
def KWOk (K : PySem.W.Frag) (k : KW) (Q : VK) (G : Hp) (B : Int) (G0 H0 : Hp) (B0 : Int) : Prop := ∀ d v O' B' G' H', k d O' B' → Le G B G' B' → Ext G0 H0 B0 G' H' B' → Rep K G' B' d v → Owns K G0 H0 G' H' B' O' → Q v H'
/-- an expression that may change what is owned -/
def WeW (K : PySem.W.Frag) (E : XK) (e : EW) (t : TE) (ρ : List (Option D)) (B : Int) (O : OwL) (k : KW) : Prop :=
  ∀ σ H G G0 H0 B0 Q, EnvR K G B ρ σ → Owns K G0 H0 G H B O → Ext G0 H0 B0 G H B → XOk K E e G0 H0 B0 → KWOk K k Q G B G0 H0 B0 → t σ H Q
def WaW (K : PySem.W.Frag) (E : XK) (e : EW) (t : TA) (ρ : List (Option D)) (B : Int) (O : OwL) (k : KWL) : Prop :=
  ∀ σ H G G0 H0 B0 Q, EnvR K G B ρ σ → Owns K G0 H0 G H B O → Ext G0 H0 B0 G H B → XOk K E e G0 H0 B0 →
    (∀ ds vs O' B' G' H', k ds O' B' → Le G B G' B' → Ext G0 H0 B0 G' H' B' → RepL K G' B' ds vs → Owns K G0 H0 G' H' B' O' → Q vs H') → t σ H Q
section
variable {K : PySem.W.Frag} {E E' : XK} {e : EW} {ρ : List (Option D)} {B : Int} {κ : KS} {κx : KX} {ta tb tc tl te : TE} {t : TA} {c : TT} {s ts us tbody : TS} {g : TG} {i j n : Nat} {O : OwL} {p : Addr} {es : List D} {pr : Pr} {k : KW}
theorem wew_we (h : We K E e ta ρ B fun d B1 => k d O B1) : WeW K E e ta ρ B O k := fun σ H G G0 H0 B0 Q en ow ex x q =>
  h σ H G Q ex.sub en (x.ext ex) fun d v B1 G1 H1 hk e1 r1 => q d v O B1 G1 H1 hk e1.le (ex.trans e1) r1 (ow.ext e1)
theorem WeW.imp {k' : KW} (h : WeW K E e ta ρ B O k) (f : ∀ d O' B', k d O' B' → k' d O' B') : WeW K E e ta ρ B O k' := fun σ H G G0 H0 B0 Q en ow ex x q => h σ H G G0 H0 B0 Q en ow ex x fun d v O' B' G' H' hk => q d v O' B' G' H' (f d O' B' hk)
theorem wew_op {r : R2} (h : WeW K E e ta ρ B O fun a O1 B1 => WeW K E e tb ρ B1 O1 fun b O2 B2 => Ro K E e r a b B2 fun d B3 => k d O2 B3) : WeW K E e (tOp r ta tb) ρ B O k := fun σ H G G0 H0 B0 Q en ow ex x q =>
  h σ H G G0 H0 B0 _ en ow ex x fun a v O1 B1 G1 H1 h1 l1 ex1 r1 ow1 => h1 σ H1 G1 G0 H0 B0 _ (en.mono l1) ow1 ex1 x fun b u O2 B2 G2 H2 h2 l2 ex2 r2 ow2 =>
    h2 v u H2 G2 Q ex2.sub (r1.mono l2) r2 (x.ext ex2) fun d w B3 G3 H3 h3 e3 r3 => q d w O2 B3 G3 H3 h3 (l1.trans (l2.trans e3.le)) (ex2.trans e3) r3 (ow2.ext e3)
/-- l[i], l owned, told by its reference -/
theorem wew_ixV (h : WeW K E e ta ρ B O fun d O1 B1 => WeW K E e tb ρ B1 O1 fun c O2 B2 => ∃ (p : Addr) (n : Nat) (es : List D) (z : Int) (d' : D), d = .val (.ref p) ∧ c = .int z ∧ O2[n]? = some (p, OC.list es) ∧ atI es z = some d' ∧ k d' O2 B2) : WeW K E e (tOp (rIxL K) ta tb) ρ B O k := fun σ H G G0 H0 B0 Q en ow ex x q =>
  h σ H G G0 H0 B0 _ en ow ex x fun a v O1 B1 G1 H1 h1 l1 ex1 r1 ow1 => h1 σ H1 G1 G0 H0 B0 _ (en.mono l1) ow1 ex1 x fun b u O2 B2 G2 H2 ⟨p, n, es, z, d', ed, ec, hn, ha, hk⟩ l2 ex2 r2 ow2 => by
    subst ed ec
    obtain ⟨_, _, vs, hL, hr⟩ := own_at ow2 hn
    obtain ⟨w, h1, h2⟩ := hr.ixN ha
    exact ⟨p, vs, z, w, r1, r2, SqL.of hL, h1, q _ _ _ _ _ _ hk (l1.trans l2) ex2 h2 ow2⟩
theorem waw_nil {k : KWL} (h : k [] O B) : WaW K E e tNil ρ B O k := fun σ H G G0 H0 B0 Q en ow ex x q => q _ _ _ _ _ _ h (Le.refl _ _) ex rfl ow
theorem waw_cons {k : KWL} (h : WeW K E e ta ρ B O fun a O1 B1 => WaW K E e t ρ B1 O1 fun ds O2 B2 => k (a :: ds) O2 B2) : WaW K E e (tCons ta t) ρ B O k := fun σ H G G0 H0 B0 Q en ow ex x q =>
  h σ H G G0 H0 B0 _ en ow ex x fun a v O1 B1 G1 H1 h1 l1 ex1 r1 ow1 => h1 σ H1 G1 G0 H0 B0 _ (en.mono l1) ow1 ex1 x fun ds vs O2 B2 G2 H2 h2 l2 ex2 r2 ow2 => q _ _ _ _ _ _ h2 (l1.trans l2) ex2 ⟨v, vs, rfl, r1.mono l2, r2⟩ ow2
open Classical in
/-- the heap without what is owned -/
noncomputable def hide (O : OwL) (H : Hp) : Hp := fun a => if a ∈ O.map Prod.fst then none else H a
theorem hide_in {H : Hp} {a : Addr} (h : a ∈ O.map Prod.fst) : hide O H a = none := by unfold hide; rw [if_pos h]
theorem hide_out {H : Hp} {a : Addr} (h : a ∉ O.map Prod.fst) : hide O H a = H a := by unfold hide; rw [if_neg h]
theorem hide_ext {G H : Hp} (s : Sub G H) (h : ∀ x ∈ O, G x.1 = none) : Ext G (hide O H) B G H B := ⟨Le.refl _ _, s, fun a o z n t => by
  by_cases q : a ∈ O.map Prod.fst
  · rw [hide_in q] at z; cases z
  · rw [hide_out q] at z; exact ⟨z, n⟩⟩
theorem hide_owns {G H : Hp} (h : (O.map Prod.fst).Nodup ∧ ∀ x ∈ O, G x.1 = none ∧ Own1 K G H B x.1 x.2) : Owns K G (hide O H) G H B O := ⟨h.1, fun x hx => ⟨(fun o z _ _ => by
  rw [hide_in (List.mem_map_of_mem hx)] at z
  cases z), h.2 x hx⟩⟩
variable {kb : KWB}
theorem wx_parW (h : WaW K E e t ρ B O fun ds O1 B1 => ∃ a b, ds = [a, b] ∧ κx.nx ((ρ.set i (some a)).set j (some b)) O1 B1) : WOw K E e (tPar i j t) ρ B O κx := fun σ H G Dn G0 H0 B0 en ow ex x q =>
  h σ H G G0 H0 B0 _ en ow ex x fun ds vs O1 B1 G1 H1 ⟨a, b, ed, h1⟩ l1 ex1 r1 ow1 => by
    subst ed
    obtain ⟨v, _, rfl, ra, u, _, rfl, rb, rfl⟩ := r1
    exact ⟨v, u, rfl, q.nx _ _ _ _ _ _ h1 ex1 (EnvR.set rb j (EnvR.set ra i (en.mono l1))) ow1⟩
structure KY where
  nx : List (Option D) → OwL → Int → Prop := fun _ _ _ => False
  rt : KW
variable {κy : KY}
end
end AW

set_option linter.all false
set_option maxRecDepth 100000
set_option maxHeartbeats 4000000
namespace AW
open PySem PySem.Spec PyProof.Rows L2 RZ LamX
variable [Tbs]
theorem putF_new {f : Str} {v : V} : ∀ {ns : List Str} {vs : List V}, ns.length = vs.length → (∀ n ∈ ns, n ≠ f) → putF f v (ns.zip vs) = (ns ++ [f]).zip (vs ++ [v])
  | [], [], _, _ => rfl
  | [], _ :: _, h, _ => nomatch h
  | _ :: _, [], h, _ => nomatch h
  | n :: ns, u :: vs, h, hn => by
    have e := putF_new (v := v) (Nat.succ.inj h) fun m hm => hn m (List.mem_cons_of_mem _ hm)
    have ne := hn n (List.mem_cons_self ..)
    show putF f v ((n, u) :: ns.zip vs) = _
    unfold putF
    first
      | rw [if_neg ne, e]; rfl
      | rw [if_neg (Ne.symm ne), e]; rfl
      | (simp [ne, e]; done)
      | (simp [Ne.symm ne, e]; done)
theorem look_obj {G : Hp} {B : Int} {K : PySem.W.Frag} {f : Str} {d : D} : ∀ {fs : List (Str × D)} {vs : List V}, RepL K G B (fs.map (·.2)) vs → fs.lookup f = some d → ∃ v, ((fs.map (·.1)).zip vs).lookup f = some v ∧ Rep K G B d v
  | [], _, _, h => by simp at h
  | (n, d0) :: fs, _, ⟨v0, vr, rfl, h0, h1⟩, h => by
    rw [List.lookup_cons] at h
    show ∃ v, ((n, v0) :: (fs.map (·.1)).zip vr).lookup f = some v ∧ _
    rw [List.lookup_cons]
    cases hq : (f == n) with
    | true => rw [hq] at h; exact ⟨v0, rfl, by cases h; exact h0⟩
    | false => rw [hq] at h; exact look_obj h1 h
section
variable {K : PySem.W.Frag} {E E' : XK} {e : EW} {ρ : List (Option D)} {B : Int} {κ : KS} {κx : KX} {ta tb tc tl te : TE} {t : TA} {c : TT} {s ts us tbody : TS} {g : TG} {i j n : Nat} {O : OwL} {p : Addr} {es : List D} {pr : Pr} {k : KW}
/-- self.f, self owned -/
theorem wew_fldS {f : Str} {C dx : Addr} {fs : List (Str × D)} {d : D} (hi : ρ[i]? = some (some (.val (.ref p)))) (hn : O[n]? = some (p, .obj C dx fs)) (hc : Cls K C) (ha : NoAttr K C f) (hf : fs.lookup f = some d) (hk : k d O B) : WeW K E e (tFld K (tVar i) f) ρ B O k := fun σ H G G0 H0 B0 Q en ow ex x q => by
  obtain ⟨v0, hv0, e0⟩ := en.get hi
  rw [show v0 = _ from e0] at hv0
  obtain ⟨_, _, vs, hL, hr⟩ := own_at ow hn
  obtain ⟨v, h1, h2⟩ := look_obj hr hf
  exact ⟨.ref p, hv0, p, C, dx, _, v, rfl, hL, hc, ha, h1, q _ _ _ _ _ _ hk (Le.refl _ _) ex h2 ow⟩
/-- self.f = x -/
theorem wx_fldS {f : Str} {C dx : Addr} (hi : ρ[i]? = some (some (.val (.ref p)))) (h : WeW K E e ta ρ B O fun d O1 B1 => ∃ (n : Nat) (fs : List (Str × D)), O1[n]? = some (p, .obj C dx fs) ∧ Cls K C ∧ NoAttr K C f ∧ fs.length < 1000 ∧ (∀ q ∈ fs.map (·.1), q ≠ f) ∧ κx.nx ρ (O1.set n (p, .obj C dx (fs ++ [(f, d)]))) B1) : WOw K E e (sFld K (tVar i) ta f) ρ B O κx := fun σ H G Dn G0 H0 B0 en ow ex x q => by
  obtain ⟨v0, hv0, e0⟩ := en.get hi
  rw [show v0 = _ from e0] at hv0
  refine h σ H G G0 H0 B0 _ en ow ex x fun d w O1 B1 G1 H1 ⟨n, fs, hn, hc, ha, hl, hf, hk⟩ l1 ex1 r1 ow1 => ?_
  obtain ⟨np, gp, vs, hL, hr⟩ := own_at ow1 hn
  have hlen := hr.length
  rw [List.length_map] at hlen
  refine ⟨.ref p, hv0, p, C, dx, _, rfl, hL, hc, ha, ?_, ?_⟩
  · rw [List.length_zip, List.length_map]; omega
  · rw [putF_new (by rw [List.length_map]; exact hlen) hf]
    exact q.nx _ _ σ B1 G1 _ hk (ex1.chgN np gp) (en.mono l1) (owns_set ow1 hn ⟨vs ++ [w], by rw [upd_same, List.map_append]; rfl, by rw [List.map_append]; exact hr.append ⟨w, [], rfl, r1, rfl⟩⟩)
theorem hide1 {p : Addr} {o : OC} {H : Hp} {a : Addr} (h : a ≠ p) : hide [(p, o)] H a = H a := hide_out (by simpa using h)
/-- the run of an __init__'s body -/
theorem run_init {C dx : Addr} {G H : Hp} {ds : List D} {ws : List V} {N : List Str} {Q : VK} {kf : List (Str × D) → OwL → Int → Prop} (hp : H p = some (.ins C dx [])) (gp : G p = none) (hs : Sub G H) (hr : RepL K G B ds ws) (hN : startD N (.val (.ref p) :: ds) = ρ)
    (hQ : ∀ fs us O' B' G' H', kf fs O' B' → Ext G (hide [(p, .obj C dx [])] H) B G' H' B' → G' p = none → H' p = some (.ins C dx ((fs.map (·.1)).zip us)) → RepL K G' B' (fs.map (·.2)) us → Owns K G (hide [(p, .obj C dx [])] H) G' H' B' O' → p ∉ O'.map Prod.fst → Q .non H')
    (h : WOw K E0 noE ts ρ B [(p, .obj C dx [])] { nx := fun _ O' B' => ∃ (n : Nat) (fs : List (Str × D)), O'[n]? = some (p, .obj C dx fs) ∧ kf fs (O'.eraseIdx n) B', rt := fun _ _ => False }) :
    ts { nx := fun _ H' => Q .non H', rt := Q } (L2.start N (.ref p :: ws)) H := by
  subst hN
  have ho : (([(p, OC.obj C dx [])] : OwL).map Prod.fst).Nodup ∧ ∀ x ∈ ([(p, OC.obj C dx [])] : OwL), G x.1 = none ∧ Own1 K G H B x.1 x.2 := ⟨by simp, fun x hx => by
    rw [List.mem_singleton] at hx
    subst hx
    exact ⟨gp, [], hp, rfl⟩⟩
  refine h _ H G _ G (hide [(p, .obj C dx [])] H) B ?_ (hide_owns ho) (hide_ext hs fun x hx => (ho.2 x hx).1) XOk.no ⟨fun ρ' O' σ' B' G' H' ⟨n, fs, hn, hk⟩ ex' en' ow' => ?_, fun _ _ _ _ _ z => z.elim, fun _ _ _ _ _ _ z => z.elim, fun _ _ _ _ _ _ z => z.elim⟩
  · unfold startD L2.start
    rw [show (D.val (.ref p) :: ds).length = (V.ref p :: ws).length by rw [List.length_cons, List.length_cons, hr.length]]
    exact EnvR.of_vals _ ⟨_, _, rfl, rfl, hr⟩
  · obtain ⟨_, g2, us, h2, hr2⟩ := own_at ow' hn
    have hsub : (O'.eraseIdx n).Sublist O' := List.eraseIdx_sublist ..
    refine hQ fs us _ B' G' H' hk ex' g2 h2 hr2 ⟨ow'.nd.sublist (hsub.map _), fun y hy => ow'.at_ y (hsub.subset hy)⟩ ?_
    intro hm
    have hl := (List.getElem?_eq_some_iff.mp hn).1
    rw [List.eraseIdx_eq_take_drop_succ, List.map_append] at hm
    have nd := ow'.nd
    have e : O' = O'.take n ++ (p, .obj C dx fs) :: O'.drop (n + 1) := by
      have h1 := (List.take_append_drop n O').symm
      rw [List.drop_eq_getElem_cons hl] at h1
      have h3 : O'[n] = (p, .obj C dx fs) := (List.getElem?_eq_some_iff.mp hn).2
      rw [h3] at h1
      exact h1
    rw [e, List.map_append, List.map_cons, List.nodup_append] at nd
    rcases List.mem_append.mp hm with h | h
    · exact nd.2.2 _ h p (List.mem_cons_self ..) rfl
    · exact (List.nodup_cons.mp nd.2.1).1 h
end
end AW

set_option linter.all false
set_option maxRecDepth 100000
set_option maxHeartbeats 4000000
namespace AW
open PySem PySem.Spec PyProof.Rows L2 RZ LamX
variable [Tbs]
section
variable {K : PySem.W.Frag} {E E1 : XK} {e : EW} {ρ : List (Option D)} {B : Int} {κx : KX} {κy : KY} {tl te : TE} {s : TS} {i sl : Nat} {O O' : OwL} {p : Addr} {es : List D} {k : KW}
variable {ta tb : TE} {t : TA} {c : TT}
end
end AW

set_option linter.all false
set_option maxRecDepth 100000
set_option maxHeartbeats 4000000
namespace AW
open PySem PySem.Spec PyProof.Rows L2 RZ LamX
variable [Tbs]
section
variable {K : PySem.W.Frag} {E E1 : XK} {e : EW} {ρ : List (Option D)} {B : Int} {k : KD} {t : TA}
end
section
variable {X : Cx} {a : Expr} {ta : TE}
end
end AW

set_option linter.all false
set_option maxRecDepth 100000
set_option maxHeartbeats 4000000
namespace AW
open PySem PySem.Spec PyProof.Rows L2 RZ LamX
variable [Tbs]
section
variable {K : PySem.W.Frag} {E E1 : XK} {e : EW} {ρ : List (Option D)} {B : Int} {κ : KS} {ta tb : TE} {us : TS} {i : Nat}
end
end AW

set_option linter.all false
set_option maxRecDepth 100000
set_option maxHeartbeats 8000000
namespace AW
open PySem PySem.Spec PyProof.Rows L2
variable [Tbs]
section
variable {K : PySem.W.Frag} {E : XK} {e : EW} {ρ : List (Option D)} {B : Int}
end
end AW

set_option linter.all false
set_option maxRecDepth 100000
set_option maxHeartbeats 4000000
namespace AW
open PySem PySem.Spec PyProof.Rows L2 RZ
variable [Tbs]
section
variable {K : PySem.W.Frag} {E E1 : XK} {e : EW} {ρ : List (Option D)} {B : Int} {k : KD} {tl te tx : TE} {sO sI : Nat}
end
end AW

set_option linter.all false
set_option maxRecDepth 100000
set_option maxHeartbeats 4000000
namespace AW
open PySem PySem.Spec PyProof.Rows L2 RZ LamX
variable [Tbs]
section
variable {K : PySem.W.Frag} {E E' E1 : XK} {e : EW} {ρ : List (Option D)} {B : Int} {k : KD} {κ : KS} {κx : KX} {ta tb tl te : TE} {t : TA} {ts us : TS} {i j n : Nat} {O : OwL} {p : Addr} {es : List D}
/-- l[j] = x, l owned, x by what reads owned things -/
theorem wx_itemW (hi : ρ[i]? = some (some (.val (.ref p)))) (h : WeW K E e ta ρ B O fun d O1 B1 => We K E e tb ρ B1 fun c B2 => ∃ (n : Nat) (es : List D) (m : Nat), O1[n]? = some (p, .list es) ∧ c = .int m ∧ m < es.length ∧ κx.nx ρ (O1.set n (p, .list (es.set m d))) B2) : WOw K E e (tAsg ta (gSub (tVar i) tb rSetL)) ρ B O κx := fun σ H G Dn G0 H0 B0 en ow ex x q => by
  obtain ⟨v0, hv0, e0⟩ := en.get hi
  rw [show v0 = _ from e0] at hv0
  refine h σ H G G0 H0 B0 _ en ow ex x fun d v O1 B1 G1 H1 hb l1 ex1 rv ow1 => ?_
  refine ⟨.ref p, hv0, ?_⟩
  refine hb σ H1 G1 _ ex1.sub (en.mono l1) (x.ext ex1) fun c w B2 G2 H2 ⟨n, es, m, hn, ec, hm, hk⟩ e2 rw_ => ?_
  subst ec
  rw [show w = _ from rw_]
  obtain ⟨np, gp, vs, hL, hr⟩ := own_at ow1 hn
  obtain ⟨z1, z2⟩ := e2.fr p _ hL gp ⟨(fun _ z => nomatch z), fun _ z => nomatch z⟩
  have hvl : es.length = vs.length := hr.length
  have hix : ixN vs.length (m : Int) = some m := by
    unfold ixN
    rw [if_pos (by omega), if_pos (by omega), Int.toNat_natCast]
  refine ⟨p, vs, (m : Int), m, rfl, rfl, z1, hix, ?_⟩
  exact q.nx _ _ σ B2 G2 _ hk ((ex1.trans e2).chgN np z2) ((en.mono l1).mono e2.le) (owns_set (ow1.ext e2) hn ⟨_, upd_same, RepL.set (rv.mono e2.le) m (hr.mono e2.le)⟩)
end
end AW

set_option linter.all false
set_option maxRecDepth 100000
set_option maxHeartbeats 4000000
namespace AW
open PySem PySem.Spec PyProof.Rows L2 RZ LamX
variable [Tbs]
section
variable {K : PySem.W.Frag} {E E' E1 : XK} {e : EW} {ρ : List (Option D)} {B : Int} {k : KW} {κ : KS} {κx : KX} {ta tb tl te : TE} {t : TA} {s ts us : TS} {i j n : Nat} {O : OwL} {p a : Addr} {es ds : List D}
end
end AW

set_option linter.all false
set_option maxRecDepth 100000
set_option maxHeartbeats 4000000
namespace AW
open PySem PySem.Spec PyProof.Rows L2 RZ LamX
variable [Tbs]
end AW

set_option linter.all false
set_option maxHeartbeats 2000000
namespace AW
open PySem PySem.Spec PyProof.Rows L2
variable [Tbs]
section
variable {P : Program} {w : World} {K : PySem.W.Frag} {mg : Str → Option Value} {base : Heap} {E E' : XK} {e : EW} {ρ : List (Option D)} {B : Int} {k : KD} {κ : KS} {t : TA} {i : Nat}
end
end AW

set_option linter.all false
set_option maxRecDepth 100000
set_option maxHeartbeats 4000000
namespace AW
open PySem PySem.Spec PyProof.Rows L2 RZ LamX
variable [Tbs]
section
variable {K : PySem.W.Frag} {E E' E1 : XK} {e : EW} {ρ : List (Option D)} {B : Int} {κ : KS} {κx : KX} {ta tb tl te : TE} {t : TA} {ts us : TS} {i j n : Nat} {O : OwL} {p : Addr} {es : List D} {k : KW}
/-- list(y), owned -/
theorem wew_copyL (h : Wa K E e t ρ B fun as B1 => ∃ ds : List D, as = [.lst ds] ∧ ∀ p, k (.val (.ref p)) ((p, .list ds) :: O) B1) :
    WeW K E e (tCB (fun xs H Q => ∃ p ys, xs = [.ref p] ∧ (SqL K H p ys ∨ SqT K H p ys) ∧ ∀ l, H l = none → Q (.ref l) (upd H l (.lst ys))) t) ρ B O k := fun σ H G G0 H0 B0 Q en ow ex x q =>
  h σ H G _ ex.sub en (x.ext ex) fun as vs B1 G1 H1 ⟨ds, ed, hk⟩ e1 r1 => by
    subst ed
    obtain ⟨v, _, rfl, ⟨a, us0, rfl, ha, hr⟩, rfl⟩ := r1
    exact ⟨a, us0, rfl, .inl (SqL.of (e1.sub _ _ ha)), fun p np => q _ _ _ B1 G1 _ (hk p) e1.le ((ex.trans e1).trans (Ext.hid e1.sub np)) rfl (owns_cons (ow.ext e1) (ex.trans e1) np ⟨us0, upd_same, hr⟩)⟩
end
end AW

set_option linter.all false
set_option maxHeartbeats 2000000
namespace AW
open PySem PySem.Spec PyProof.Rows L2
variable [Tbs]
section
variable {P : Program} {w : World} {K : PySem.W.Frag} {mg : Str → Option Value} {base : Heap} {E E1 : XK} {e : EW} {ρ : List (Option D)} {B : Int} {k : KD} {κ : KS} {t tk : TA} {te ta : TE} {tt : TT} {i j : Nat} {g1 g2 g3 : TG}
end
end AW

set_option linter.all false
set_option maxHeartbeats 2000000
namespace AW
open PySem PySem.Spec PyProof.Rows L2
variable [Tbs]
section
variable {P : Program} {w : World} {K : PySem.W.Frag} {mg : Str → Option Value} {base : Heap} {E E1 : XK} {e : EW} {ρ : List (Option D)} {B : Int} {O : OwL} {k : KW} {κx : KX} {t : TA} {te tl : TE} {tt : TT} {g : TG} {tbody : TS}
end
end AW

set_option linter.all false
set_option maxRecDepth 100000
set_option maxHeartbeats 4000000
namespace AW
open PySem PySem.Spec PyProof.Rows L2 RZ LamX
variable [Tbs]
section
variable {K : PySem.W.Frag} {E E' : XK} {e : EW} {ρ : List (Option D)} {B : Int} {k : KD} {κ : KS} {κx : KX} {ta tb tc tl te ti : TE} {tt : TT} {t : TA} {s ts us tbody : TS} {g : TG} {i j n : Nat} {O : List (Addr × OC)} {p : Addr}
end
end AW

set_option linter.all false
set_option maxRecDepth 100000
set_option maxHeartbeats 4000000
namespace AW
open PySem PySem.Spec PyProof.Rows L2
variable [Tbs]
section
variable {K : PySem.W.Frag} {E E' : XK} {e : EW} {ρ : List (Option D)} {B : Int} {k : KD} {t : TA}
/-- min(a, b) of tuples of ints -/
theorem we_min2T (h : Wa K E e t ρ B fun as B1 => ∃ n1 n2 : List Int, as = [.tup (n1.map D.int), .tup (n2.map D.int)] ∧ (HT.lexLt n2 n1 = false → k (.tup (n1.map D.int)) B1) ∧ (HT.lexLt n1 n2 = false → k (.tup (n2.map D.int)) B1)) : We K E e (tCB (RM.rMin2T K) t) ρ B k :=
  we_cb fun σ H G Q s en x q => h σ H G Q s en x fun ds vs B1 G1 H1 ⟨n1, n2, ed, h1, h2⟩ e1 r1 => q ds vs B1 G1 H1 (fun ws H2 G2 Q2 s2 r2 q2 => by
    subst ed
    obtain ⟨v1, _, rfl, ra, v2, _, rfl, rb, rfl⟩ := r2
    have rA := ra
    have rB := rb
    obtain ⟨t1, z1, rfl, ha, hz1⟩ := ra
    obtain ⟨t2, z2, rfl, hb, hz2⟩ := rb
    rw [RepL.ints_inv hz1] at ha
    rw [RepL.ints_inv hz2] at hb
    refine ⟨.ref t1, .ref t2, n1, n2, rfl, ⟨t1, rfl, (Le.of_sub (B := B1) (B' := B1) s2 (Int.le_refl _)).seqT ha⟩, ⟨t2, rfl, (Le.of_sub (B := B1) (B' := B1) s2 (Int.le_refl _)).seqT hb⟩, fun z => q2 _ _ _ _ _ (h1 z) (Ext.refl s2) rA, fun z => q2 _ _ _ _ _ (h2 z) (Ext.refl s2) rB⟩) e1 r1
/-- max(a, b) where things are owned -/
theorem wew_max2 {O : OwL} {k : KW} (h : WaW K E e t ρ B O fun ds O1 B1 => ∃ i j : Int, ds = [.int i, .int j] ∧ k (.int (if j > i then j else i)) O1 B1) : WeW K E e (tCB (fun xs H Q => ∃ i j, xs = [.int i, .int j] ∧ Q (.int (if j > i then j else i)) H) t) ρ B O k := fun σ H G G0 H0 B0 Q en ow ex x q =>
  h σ H G G0 H0 B0 _ en ow ex x fun ds vs O1 B1 G1 H1 ⟨i, j, ed, hk⟩ l1 ex1 r1 ow1 => by
    subst ed
    obtain ⟨v, _, rfl, rv, u, _, rfl, ru, rfl⟩ := r1
    rw [show v = _ from rv, show u = _ from ru]
    exact ⟨i, j, rfl, q _ _ _ _ _ _ hk l1 ex1 rfl ow1⟩
end
end AW

set_option linter.all false
set_option maxHeartbeats 2000000
namespace AW
open PySem PySem.Spec PyProof.Rows L2
variable [Tbs]
section
variable {P : Program} {w : World} {K : PySem.W.Frag} {mg : Str → Option Value} {base : Heap} {E E1 : XK} {e : EW} {ρ : List (Option D)} {B : Int} {k : KD} {tl te : TE} {tt : TT} {i j : Nat}
/-- [f(x, y) for x, y in a list of pairs if p(x, y)] -/
theorem we_lc_pairLf {α : Type} {fx fy f : α → D} (hij : i ≠ j) (h : We K E e tl ρ B fun d B1 => ∃ (xs : List α) (p : α → Bool), d = .lst (xs.map fun z => .tup [fx z, fy z]) ∧ xs.length < sizeLine ∧
    (∀ z ∈ xs, ∀ kb : Bool → Int → Prop, kb (p z) B1 → Wt K E1 noE tt ((((ρ.set j none).set i none).set i (some (fx z))).set j (some (fy z))) B1 kb) ∧
    (∀ z ∈ xs, ∀ k' : KD, k' (f z) B1 → We K E1 noE te ((((ρ.set j none).set i none).set i (some (fx z))).set j (some (fy z))) B1 k') ∧ k (.lst ((xs.filter p).map f)) B1) :
    We K E e (tLc (iList K tl) (gTup K 2 (gCons (gName i) (gCons (gName j) gNil))) tt te [i, j]) ρ B k := fun σ H G Q s en x q =>
  h σ H G _ s en x fun d v B1 G1 H1 ⟨xs, p, ed, hz, ht, hs, hk⟩ e1 r1 => by
    subst ed
    obtain ⟨a, us, rfl, ha, hr⟩ := r1
    have hlen : us.length = xs.length := by rw [← hr.length, List.length_map]
    refine ⟨a, rfl, ⟨us, SqL.of (e1.sub _ _ ha)⟩, fun L nL => ?_⟩
    refine lc_list (xs := us) (fun n H' => LcOk K (fun out B => out.length ≤ n ∧ (out = ((xs.take n).filter p).map f ∧ B = B1)) L G1 H1 B1 H') (lc_start e1.sub nL ⟨Nat.le_refl _, rfl, rfl⟩) (fun i H' _ z => SqL.of (z.kept ha nopen_lst)) ?_ ?_
    · intro n y H' hi hP
      obtain ⟨dx, hdx, rx⟩ := hr.get' hi
      rw [List.getElem?_map] at hdx
      obtain ⟨z, hx, ey⟩ := Option.map_eq_some_iff.mp hdx
      subst ey
      have hm := List.mem_of_getElem? hx
      have hn : n < xs.length := (List.getElem?_eq_some_iff.mp hx).1
      exact lc_stepP (I := fun n out B => out = ((xs.take n).filter p).map f ∧ B = B1) hij nL e1.sub (en.mono e1.le) hP (by omega) rx fun out B' ⟨eo, eB⟩ => by
        subst eB
        refine ht z hm _ ⟨fun hb => hs z hm _ ⟨?_, rfl⟩, fun hb => ⟨?_, rfl⟩⟩
        · rw [eo, filt_step hx, hb, if_pos rfl]
        · rw [eo, filt_step hx, hb, if_neg Bool.false_ne_true, List.append_nil]
    · intro H' hz2
      refine lc_end e1 nL hz2 (fun out B' hI => ?_) q
      obtain ⟨_, eo, eB⟩ := hI
      subst eB
      rw [eo, List.take_of_length_le (by omega)]
      exact hk
end
end AW

set_option maxHeartbeats 2000000
namespace Fewest
abbrev ab (x : Int) : Int := (x.natAbs : Int)
/-- a box of the sides p and q holds the place -/
def Box (X Y U p q : Int) : Prop := X ≤ p ∧ Y ≤ q ∧ U + X * Y ≤ 2 * (p * q)
/-- n is the least 2 (p + q) - X - Y of the boxes -/
structure Least (X Y U n : Int) : Prop where
  has : ∃ p q, Box X Y U p q ∧ n = 2 * (p + q) - X - Y
  low : ∀ p q, Box X Y U p q → n ≤ 2 * (p + q) - X - Y
theorem Box.swap {X Y U p q : Int} (h : Box X Y U p q) : Box Y X U q p := by
  obtain ⟨h1, h2, h3⟩ := h
  refine ⟨h2, h1, ?_⟩
  rw [Int.mul_comm Y X, Int.mul_comm q p]
  exact h3
theorem Least.swap {X Y U n : Int} (h : Least X Y U n) : Least Y X U n := by
  obtain ⟨p, q, b, e⟩ := h.has
  exact ⟨⟨q, p, b.swap, by omega⟩, fun p q b => by have := h.low q p b.swap; omega⟩
theorem Least.uniq {X Y U n m : Int} (h : Least X Y U n) (g : Least X Y U m) : n = m := by
  obtain ⟨p, q, b, e⟩ := h.has
  obtain ⟨p', q', b', e'⟩ := g.has
  have h1 := g.low p q b
  have h2 := h.low p' q' b'
  omega
theorem mul_mono {a b c : Int} (h : a ≤ b) (hc : 0 ≤ c) : a * c ≤ b * c := Int.mul_le_mul_of_nonneg_right h hc
/-- one step along x: to a side X' that is X + 1 or X - 1, the ground moved by at most Y -/
theorem lip_up {X Y U U' p q : Int} (hY : 0 ≤ Y) (b : Box X Y U p q) (hu : U' ≤ U + Y) : Box (X + 1) Y U' (p + 1) q := by
  obtain ⟨h1, h2, h3⟩ := b
  refine ⟨by omega, h2, ?_⟩
  rw [Int.add_mul, Int.add_mul]
  omega
theorem lip_down {X Y U U' p q : Int} (b : Box X Y U p q) (hu : U' ≤ U + Y) : Box (X - 1) Y U' p q := by
  obtain ⟨h1, h2, h3⟩ := b
  refine ⟨by omega, h2, ?_⟩
  rw [Int.sub_mul]
  omega
/-- no step makes more than one step more -/
theorem lip_x {x y u u' x' n m : Int} (hx : x' = x + 1 ∨ x' = x - 1) (hu : ab u' ≤ ab u + ab y) (h : Least (ab x) (ab y) (ab u) n) (g : Least (ab x') (ab y) (ab u') m) : m ≤ n + 1 := by
  obtain ⟨p, q, b, e⟩ := h.has
  have hY : 0 ≤ ab y := by unfold ab; omega
  rcases (show ab x' = ab x + 1 ∨ ab x' = ab x - 1 by unfold ab; omega) with e1 | e1
  · rw [e1] at g
    have := g.low _ _ (lip_up hY b hu)
    omega
  · rw [e1] at g
    have := g.low _ _ (lip_down b hu)
    omega
def half (A : Int) (h : Int) : Prop := 0 ≤ h ∧ 4 * A ≤ h * h ∧ (h - 1) * (h - 1) < 4 * A
theorem sq_le {a b : Int} (ha : 0 ≤ a) (h : a ≤ b) : a * a ≤ b * b := Int.le_trans (Int.mul_le_mul_of_nonneg_right h ha) (Int.mul_le_mul_of_nonneg_left h (by omega))
theorem sq_lt {a b : Int} (hb : 0 ≤ b) (h : a * a < b * b) : a < b := by
  by_cases c : b ≤ a
  · have := sq_le hb c; omega
  · omega
theorem four (p q : Int) : 4 * (p * q) ≤ (p + q) * (p + q) := by
  have h : 0 ≤ (p - q) * (p - q) := by
    rcases Int.le_total 0 (p - q) with h | h
    · exact Int.mul_nonneg h h
    · have := Int.mul_nonneg (show 0 ≤ -(p - q) by omega) (show 0 ≤ -(p - q) by omega)
      rw [Int.neg_mul_neg] at this
      exact this
  have e : (p + q) * (p + q) = (p - q) * (p - q) + 4 * (p * q) := by grind
  omega
/-- within the sides -/
theorem least1 {L S U A : Int} (hA : 2 * A = U + L * S) (hc : A ≤ L * S) : Least L S U (L + S) :=
  ⟨⟨L, S, ⟨Int.le_refl _, Int.le_refl _, by omega⟩, by omega⟩, fun p q b => by have := b.1; have := b.2.1; omega⟩
/-- the longer side stays, c the least with A ≤ L c -/
theorem least2 {L S U A c : Int} (hS : 0 ≤ S) (hL : 0 < L) (hA : 2 * A = U + L * S) (h1 : L * S < A) (h2 : A ≤ L * L) (hc : A ≤ L * c) (hc2 : L * (c - 1) < A) : Least L S U (2 * c + L - S) := by
  have cS : S ≤ c := by
    rcases (show c < S ∨ S ≤ c by omega) with h | h
    · have := Int.mul_le_mul_of_nonneg_left (show c ≤ S by omega) (Int.le_of_lt hL)
      omega
    · exact h
  refine ⟨⟨L, c, ⟨Int.le_refl _, cS, by omega⟩, by omega⟩, fun p q b => ?_⟩
  obtain ⟨b1, b2, b3⟩ := b
  rcases (show p + q < L + c ∨ L + c ≤ p + q by omega) with h | h
  · have cL : c - 1 < L := by
      rcases (show c - 1 < L ∨ L ≤ c - 1 by omega) with h | h
      · exact h
      · have := Int.mul_le_mul_of_nonneg_left h (Int.le_of_lt hL)
        omega
    -- p = L + d, q ≤ c - 1 - d
    have hp : 0 ≤ p := by omega
    have e1 : p * q ≤ p * (L + c - 1 - p) := Int.mul_le_mul_of_nonneg_left (by omega) hp
    have e2 : 0 ≤ (p - L) * (p - (c - 1)) := Int.mul_nonneg (by omega) (by omega)
    have e3 : p * (L + c - 1 - p) = L * (c - 1) - (p - L) * (p - (c - 1)) := by grind
    omega
  · omega
/-- a square, or nearly so -/
theorem least3 {L S U A h : Int} (hS : 0 ≤ S) (hSL : S ≤ L) (hA : 2 * A = U + L * S) (h2 : L * L < A) (hh : half A h) : Least L S U (2 * h - L - S) := by
  obtain ⟨k0, k1, k2⟩ := hh
  have hL : 2 * L < h := by
    have : (2 * L) * (2 * L) < h * h := by
      have e : (2 * L) * (2 * L) = 4 * (L * L) := by grind
      omega
    exact sq_lt k0 this
  obtain ⟨p, q, hpq, hq⟩ : ∃ p q : Int, p + q = h ∧ (p = q ∨ p = q + 1) := ⟨h - h / 2, h / 2, by omega, by omega⟩
  have area : A ≤ p * q := by
    rcases hq with e | e
    · subst e
      have e2 : h * h = 4 * (p * p) := by rw [← hpq]; grind
      omega
    · subst e
      have e2 : h * h = 4 * ((q + 1) * q) + 1 := by rw [← hpq]; grind
      omega
  refine ⟨⟨p, q, ⟨by omega, by omega, by omega⟩, by omega⟩, fun p q b => ?_⟩
  obtain ⟨b1, b2, b3⟩ := b
  have h4 := four p q
  have : (h - 1) * (h - 1) < (p + q) * (p + q) := by omega
  have := sq_lt (show 0 ≤ p + q by omega) this
  omega
end Fewest
namespace Fewest
theorem lip_y {x y u u' y' n m : Int} (hy : y' = y + 1 ∨ y' = y - 1) (hu : ab u' ≤ ab u + ab x) (h : Least (ab x) (ab y) (ab u) n) (g : Least (ab x) (ab y') (ab u') m) : m ≤ n + 1 :=
  lip_x (x := y) (y := x) hy hu h.swap g.swap
/-- a least number is as great as the sides, and goes with them by two -/
theorem Least.ge {x y u n : Int} (h : Least (ab x) (ab y) (ab u) n) : ab x + ab y ≤ n := by
  obtain ⟨p, q, ⟨b1, b2, _⟩, e⟩ := h.has
  omega
theorem Least.par {x y u n : Int} (h : Least (ab x) (ab y) (ab u) n) : n % 2 = (x + y) % 2 := by
  obtain ⟨p, q, _, e⟩ := h.has
  unfold ab at e
  omega
/-- 0 just at home -/
theorem Least.zero {x y u n : Int} (h : Least (ab x) (ab y) (ab u) n) : n = 0 ↔ x = 0 ∧ y = 0 ∧ u = 0 := by
  obtain ⟨p, q, ⟨b1, b2, b3⟩, e⟩ := h.has
  constructor
  · intro z
    subst z
    have hx : 0 ≤ ab x := by unfold ab; omega
    have hy : 0 ≤ ab y := by unfold ab; omega
    have p0 : p = 0 := by omega
    have q0 : q = 0 := by omega
    subst p0; subst q0
    have x0 : x = 0 := by unfold ab at b1; omega
    have y0 : y = 0 := by unfold ab at b2; omega
    subst x0; subst y0
    refine ⟨rfl, rfl, ?_⟩
    have z : ab 0 = 0 := rfl
    rw [z] at b3
    unfold ab at b3
    omega
  · rintro ⟨rfl, rfl, rfl⟩
    have z : ab 0 = 0 := rfl
    have g := h.ge
    rw [z] at h g
    have := h.low 0 0 ⟨by decide, by decide, by decide⟩
    omega
/-- where a box is that is better by what is wanted, the least number is less -/
theorem Least.lt {X Y U X' Y' U' p q p' q' n m : Int} (e : n = 2 * (p + q) - X - Y) (g : Least X' Y' U' m) (b : Box X' Y' U' p' q') (l : 2 * (p' + q') - X' - Y' < 2 * (p + q) - X - Y) : m < n := by
  have := g.low p' q' b
  omega
theorem ab_pos {x : Int} (h : 0 ≤ x) : ab x = x := by unfold ab; omega
theorem ab_neg {x : Int} : ab (-x) = ab x := by unfold ab; omega
/-- from a place in the first quarter with u ≥ 0 some step leads nearer: e, w or s -/
theorem down_first {x y u n : Int} (hx : 0 ≤ x) (hy : 0 ≤ y) (hu : 0 ≤ u) (par : (u - x * y) % 2 = 0) (nz : ¬(x = 0 ∧ y = 0 ∧ u = 0)) (h : Least x y u n) :
    (∃ p q, Box (ab (x + 1)) (ab y) (ab (u - y)) p q ∧ 2 * (p + q) - ab (x + 1) - ab y < n) ∨
    (∃ p q, Box (ab (x - 1)) (ab y) (ab (u + y)) p q ∧ 2 * (p + q) - ab (x - 1) - ab y < n) ∨
    (∃ p q, Box (ab x) (ab (y - 1)) (ab (u - x)) p q ∧ 2 * (p + q) - ab x - ab (y - 1) < n) := by
  obtain ⟨p, q, ⟨b1, b2, b3⟩, e⟩ := h.has
  have xy0 : 0 ≤ x * y := Int.mul_nonneg hx hy
  rcases (show u ≤ x * y ∨ x * y < u by omega) with c | c
  · -- within the sides
    have nn := h.low x y ⟨Int.le_refl _, Int.le_refl _, by omega⟩
    have ge : x + y ≤ n := by omega
    have en : n = x + y := by omega
    rcases (show y = 0 ∨ 1 ≤ y by omega) with hy0 | hy1
    · subst hy0
      have u0 : u = 0 := by simp at c; omega
      subst u0
      have x1 : 1 ≤ x := by
        rcases (show x = 0 ∨ 1 ≤ x by omega) with z | z
        · exact absurd ⟨z, rfl, rfl⟩ nz
        · exact z
      have z : ab 0 = 0 := rfl
      refine .inr (.inl ⟨x - 1, 0, ⟨by unfold ab; omega, by rw [z]; exact Int.le_refl _, ?_⟩, by unfold ab; omega⟩)
      rw [show (0 : Int) + 0 = 0 from rfl, z, Int.mul_zero, Int.mul_zero]
      decide
    · rcases (show x ≤ u ∨ u < x by omega) with d | d
      · -- s
        refine .inr (.inr ⟨x, y - 1, ⟨by unfold ab; omega, by unfold ab; omega, ?_⟩, by unfold ab; omega⟩)
        have e1 : ab x = x := by unfold ab; omega
        have e2 : ab (y - 1) = y - 1 := by unfold ab; omega
        have e3 : ab (u - x) = u - x := by unfold ab; omega
        rw [e1, e2, e3, Int.mul_sub]
        omega
      · rcases (show y = 1 ∨ 2 ≤ y by omega) with z | z
        · subst z
          -- w
          refine .inr (.inl ⟨x - 1, 1, ⟨by unfold ab; omega, by unfold ab; omega, ?_⟩, by unfold ab; omega⟩)
          have e1 : ab (x - 1) = x - 1 := by unfold ab; omega
          have e2 : ab (u + 1) = u + 1 := by unfold ab; omega
          have e3 : ab 1 = 1 := rfl
          rw [e1, e2, e3]
          omega
        · refine .inr (.inr ⟨x, y - 1, ⟨by unfold ab; omega, by unfold ab; omega, ?_⟩, by unfold ab; omega⟩)
          have e1 : ab x = x := by unfold ab; omega
          have e2 : ab (y - 1) = y - 1 := by unfold ab; omega
          have e3 : ab (u - x) = x - u := by unfold ab; omega
          have e4 : x * 2 ≤ x * y := Int.mul_le_mul_of_nonneg_left z hx
          rw [e1, e2, e3, Int.mul_sub]
          omega
  · -- beyond
    rcases (show x + 1 ≤ p ∨ p = x by omega) with d | d
    · rcases (show y ≤ u ∨ u < y by omega) with f | f
      · -- e, the same box
        refine .inl ⟨p, q, ⟨by unfold ab; omega, by unfold ab; omega, ?_⟩, by unfold ab; omega⟩
        have e1 : ab (x + 1) = x + 1 := by unfold ab; omega
        have e2 : ab y = y := by unfold ab; omega
        have e3 : ab (u - y) = u - y := by unfold ab; omega
        rw [e1, e2, e3, Int.add_mul]
        omega
      · have x0 : x = 0 := by
          rcases (show x = 0 ∨ 1 ≤ x by omega) with z | z
          · exact z
          · have := mul_mono z hy
            omega
        subst x0
        refine .inl ⟨1, y, ⟨by unfold ab; omega, by unfold ab; omega, ?_⟩, by unfold ab; omega⟩
        have e1 : ab (0 + 1) = 1 := by unfold ab; omega
        have e2 : ab y = y := by unfold ab; omega
        have e3 : ab (u - y) = y - u := by unfold ab; omega
        rw [e1, e2, e3]
        omega
    · subst d
      have x1 : 1 ≤ p := by
        rcases (show p = 0 ∨ 1 ≤ p by omega) with z | z
        · subst z; simp at b3 c; omega
        · exact z
      have q1 : y + 1 ≤ q := by
        rcases (show q = y ∨ y + 1 ≤ q by omega) with z | z
        · subst z; omega
        · exact z
      rcases (show y = 0 ∨ 1 ≤ y by omega) with hy0 | hy1
      · subst hy0
        rcases (show p ≤ u ∨ u < p by omega) with f | f
        · refine .inr (.inr ⟨p, q, ⟨by unfold ab; omega, by unfold ab; omega, ?_⟩, by unfold ab; omega⟩)
          have e1 : ab p = p := by unfold ab; omega
          have e2 : ab (0 - 1) = 1 := by unfold ab; omega
          have e3 : ab (u - p) = u - p := by unfold ab; omega
          rw [e1, e2, e3]
          simp at b3
          omega
        · refine .inr (.inr ⟨p, 1, ⟨by unfold ab; omega, by unfold ab; omega, ?_⟩, by unfold ab; omega⟩)
          have e1 : ab p = p := by unfold ab; omega
          have e2 : ab (0 - 1) = 1 := by unfold ab; omega
          have e3 : ab (u - p) = p - u := by unfold ab; omega
          rw [e1, e2, e3]
          omega
      · have pu : p ≤ u := by
          have : p * 1 ≤ p * y := Int.mul_le_mul_of_nonneg_left hy1 hx
          omega
        refine .inr (.inr ⟨p, q - 1, ⟨by unfold ab; omega, by unfold ab; omega, ?_⟩, by unfold ab; omega⟩)
        have e1 : ab p = p := by unfold ab; omega
        have e2 : ab (y - 1) = y - 1 := by unfold ab; omega
        have e3 : ab (u - p) = u - p := by unfold ab; omega
        rw [e1, e2, e3, Int.mul_sub, Int.mul_sub]
        omega
end Fewest
namespace Fewest
/-- a box that is better than n -/
def D (x y u n : Int) : Prop := ∃ p q, Box (ab x) (ab y) (ab u) p q ∧ 2 * (p + q) - ab x - ab y < n
/-- one of the four steps leads nearer -/
def Near (x y u n : Int) : Prop := D (x + 1) y (u - y) n ∨ D (x - 1) y (u + y) n ∨ D x (y + 1) (u + x) n ∨ D x (y - 1) (u - x) n
theorem D.same {x y u x' y' u' n : Int} (h : D x y u n) (h1 : ab x' = ab x) (h2 : ab y' = ab y) (h3 : ab u' = ab u) : D x' y' u' n := by
  unfold D
  rw [h1, h2, h3]
  exact h
theorem D.swap {x y u x' y' u' n : Int} (h : D x y u n) (h1 : ab x' = ab y) (h2 : ab y' = ab x) (h3 : ab u' = ab u) : D x' y' u' n := by
  unfold D
  rw [h1, h2, h3]
  obtain ⟨p, q, b, l⟩ := h
  exact ⟨q, p, b.swap, by omega⟩
theorem Near.m1 {x y u n : Int} (h : Near (-x) y (-u) n) : Near x y u n := by
  rcases h with h | h | h | h
  · exact .inr (.inl (h.same (by unfold ab; omega) rfl (by unfold ab; omega)))
  · exact .inl (h.same (by unfold ab; omega) rfl (by unfold ab; omega))
  · exact .inr (.inr (.inl (h.same (by unfold ab; omega) rfl (by unfold ab; omega))))
  · exact .inr (.inr (.inr (h.same (by unfold ab; omega) rfl (by unfold ab; omega))))
theorem Near.m2 {x y u n : Int} (h : Near x (-y) (-u) n) : Near x y u n := by
  rcases h with h | h | h | h
  · exact .inl (h.same rfl (by unfold ab; omega) (by unfold ab; omega))
  · exact .inr (.inl (h.same rfl (by unfold ab; omega) (by unfold ab; omega)))
  · exact .inr (.inr (.inr (h.same rfl (by unfold ab; omega) (by unfold ab; omega))))
  · exact .inr (.inr (.inl (h.same rfl (by unfold ab; omega) (by unfold ab; omega))))
theorem Near.m3 {x y u n : Int} (h : Near y x (-u) n) : Near x y u n := by
  rcases h with h | h | h | h
  · exact .inr (.inr (.inl (h.swap rfl rfl (by unfold ab; omega))))
  · exact .inr (.inr (.inr (h.swap rfl rfl (by unfold ab; omega))))
  · exact .inl (h.swap rfl rfl (by unfold ab; omega))
  · exact .inr (.inl (h.swap rfl rfl (by unfold ab; omega)))
theorem near0 {x y u n : Int} (hx : 0 ≤ x) (hy : 0 ≤ y) (hu : 0 ≤ u) (par : (u - x * y) % 2 = 0) (nz : ¬(x = 0 ∧ y = 0 ∧ u = 0)) (h : Least (ab x) (ab y) (ab u) n) : Near x y u n := by
  rw [ab_pos hx, ab_pos hy, ab_pos hu] at h
  rcases down_first hx hy hu par nz h with h | h | h
  · exact .inl h
  · exact .inr (.inl h)
  · exact .inr (.inr (.inr h))
theorem near1 {x y u n : Int} (hx : 0 ≤ x) (hy : 0 ≤ y) (par : (u - x * y) % 2 = 0) (nz : ¬(x = 0 ∧ y = 0 ∧ u = 0)) (h : Least (ab x) (ab y) (ab u) n) : Near x y u n := by
  rcases (show 0 ≤ u ∨ u < 0 by omega) with c | c
  · exact near0 hx hy c par nz h
  · refine Near.m3 (near0 hy hx (by omega) ?_ (by omega) ?_)
    · rw [Int.mul_comm y x]; omega
    · rw [ab_neg]; exact h.swap
theorem near2 {x y u n : Int} (hx : 0 ≤ x) (par : (u - x * y) % 2 = 0) (nz : ¬(x = 0 ∧ y = 0 ∧ u = 0)) (h : Least (ab x) (ab y) (ab u) n) : Near x y u n := by
  rcases (show 0 ≤ y ∨ y < 0 by omega) with c | c
  · exact near1 hx c par nz h
  · refine Near.m2 (near1 hx (by omega) ?_ (by omega) ?_)
    · rw [Int.mul_neg]; omega
    · rw [ab_neg, ab_neg]; exact h
/-- from every place but home some step leads nearer -/
theorem near {x y u n : Int} (par : (u - x * y) % 2 = 0) (nz : ¬(x = 0 ∧ y = 0 ∧ u = 0)) (h : Least (ab x) (ab y) (ab u) n) : Near x y u n := by
  rcases (show 0 ≤ x ∨ x < 0 by omega) with c | c
  · exact near2 c par nz h
  · refine Near.m1 (near2 (by omega) ?_ (by omega) ?_)
    · rw [Int.neg_mul]; omega
    · rw [ab_neg, ab_neg]; exact h
theorem sqrt_ex (n : Nat) : ∃ r : Nat, r * r ≤ n ∧ n < (r + 1) * (r + 1) := by
  induction n with
  | zero => exact ⟨0, by decide, by decide⟩
  | succ n ih =>
    obtain ⟨r, h1, h2⟩ := ih
    by_cases c : n + 1 < (r + 1) * (r + 1)
    · exact ⟨r, by omega, c⟩
    · refine ⟨r + 1, by omega, ?_⟩
      have e : (r + 1 + 1) * (r + 1 + 1) = (r + 1) * (r + 1) + 2 * r + 3 := by grind
      omega
/-- h of the formula: the root of 4 A - 1, and 1 -/
theorem half_of {A r : Int} (hr : 0 ≤ r) (h1 : r * r ≤ 4 * A - 1) (h2 : 4 * A - 1 < (r + 1) * (r + 1)) : half A (r + 1) := by
  refine ⟨by omega, by omega, ?_⟩
  rw [show r + 1 - 1 = r by omega]
  omega
theorem half_ex {A : Int} (hA : 0 < A) : ∃ h, half A h := by
  obtain ⟨r, h1, h2⟩ := sqrt_ex (4 * A - 1).toNat
  refine ⟨(r : Int) + 1, half_of (by omega) ?_ ?_⟩
  · have : ((r * r : Nat) : Int) ≤ 4 * A - 1 := by omega
    rw [Int.natCast_mul] at this
    exact this
  · have : (4 * A - 1) < (((r + 1) * (r + 1) : Nat) : Int) := by omega
    rw [Int.natCast_mul, Int.natCast_add] at this
    exact this
theorem up_ex {A L : Int} (hL : 0 < L) : A ≤ L * (-((-A) / L)) ∧ L * (-((-A) / L) - 1) < A := by
  have h1 := Int.emod_nonneg (-A) (show L ≠ 0 by omega)
  have h2 := Int.emod_lt_of_pos (-A) hL
  have h3 := Int.mul_ediv_add_emod (-A) L
  rw [Int.mul_neg, Int.mul_sub, Int.mul_neg, Int.mul_one]
  omega
/-- the formula of the fewest steps, of the longer and the shorter side and the doubled ground -/
theorem least_sorted {L S U A : Int} (hS : 0 ≤ S) (hSL : S ≤ L) (hU : 0 ≤ U) (hA : 2 * A = U + L * S) : ∃ n, Least L S U n := by
  have h0 : 0 ≤ L * S := Int.mul_nonneg (by omega) hS
  rcases (show A ≤ L * S ∨ L * S < A by omega) with c | c
  · exact ⟨_, least1 hA c⟩
  · rcases (show A ≤ L * L ∨ L * L < A by omega) with d | d
    · have hL : 0 < L := by
        rcases (show L = 0 ∨ 0 < L by omega) with z | z
        · subst z; omega
        · exact z
      exact ⟨_, least2 hS hL hA c d (up_ex hL).1 (up_ex hL).2⟩
    · obtain ⟨h, hh⟩ := half_ex (A := A) (by omega)
      exact ⟨_, least3 hS hSL hA d hh⟩
theorem least_ex {x y u : Int} (par : (u - x * y) % 2 = 0) : ∃ n, Least (ab x) (ab y) (ab u) n := by
  have hx : 0 ≤ ab x := by unfold ab; omega
  have hy : 0 ≤ ab y := by unfold ab; omega
  have hu : 0 ≤ ab u := by unfold ab; omega
  have e : (ab u + ab x * ab y) % 2 = 0 := by
    have e1 : ab x * ab y = ab (x * y) := by unfold ab; rw [Int.natAbs_mul, Int.natCast_mul]
    rw [e1]
    unfold ab
    omega
  rcases (show ab y ≤ ab x ∨ ab x ≤ ab y by omega) with c | c
  · exact least_sorted hy c hu (A := (ab u + ab x * ab y) / 2) (by omega)
  · have e' : (ab u + ab y * ab x) % 2 = 0 := by rw [Int.mul_comm]; exact e
    obtain ⟨n, h⟩ := least_sorted hx c hu (A := (ab u + ab y * ab x) / 2) (by omega)
    exact ⟨n, h.swap⟩
end Fewest
namespace Fewest
/-- n is the number of fewest steps to (x, y, a) -/
def St (x y a n : Int) : Prop := Least (ab x) (ab y) (ab (2 * a - x * y)) n
theorem st_par (x y a : Int) : (2 * a - x * y - x * y) % 2 = 0 := by omega
theorem st_ex (x y a : Int) : ∃ n, St x y a n := least_ex (st_par x y a)
theorem St.uniq {x y a n m : Int} (h : St x y a n) (g : St x y a m) : n = m := Least.uniq h g
theorem St.pos {x y a n : Int} (h : St x y a n) : 0 ≤ n := by
  have := Least.ge h
  unfold ab at this
  omega
theorem St.home {x y a n : Int} (h : St x y a n) : n = 0 ↔ x = 0 ∧ y = 0 ∧ a = 0 := by
  rw [Least.zero h]
  constructor
  · rintro ⟨rfl, rfl, h3⟩
    exact ⟨rfl, rfl, by omega⟩
  · rintro ⟨rfl, rfl, rfl⟩
    exact ⟨rfl, rfl, rfl⟩
theorem ue (x y a : Int) : 2 * a - (x + 1) * y = (2 * a - x * y) - y := by rw [Int.add_mul]; omega
theorem uw (x y a : Int) : 2 * a - (x - 1) * y = (2 * a - x * y) + y := by rw [Int.sub_mul]; omega
theorem un (x y a : Int) : 2 * (a + x) - x * (y + 1) = (2 * a - x * y) + x := by rw [show x * (y + 1) = x * y + x by rw [Int.mul_add, Int.mul_one]]; omega
theorem us (x y a : Int) : 2 * (a - x) - x * (y - 1) = (2 * a - x * y) - x := by rw [show x * (y - 1) = x * y - x by rw [Int.mul_sub, Int.mul_one]]; omega
theorem ab_sub (u y : Int) : ab (u - y) ≤ ab u + ab y := by unfold ab; omega
theorem ab_add (u y : Int) : ab (u + y) ≤ ab u + ab y := by unfold ab; omega
/-- a step is one more or one less -/
theorem one_of {n m s t : Int} (h1 : m ≤ n + 1) (h2 : n ≤ m + 1) (p1 : n % 2 = s % 2) (p2 : m % 2 = t % 2) (st : (s - t) % 2 = 1) : m = n + 1 ∨ m = n - 1 := by omega
theorem St.e {x y a n m : Int} (h : St x y a n) (g : St (x + 1) y a m) : m = n + 1 ∨ m = n - 1 := by
  unfold St at h g
  rw [ue] at g
  have g2 := g
  refine one_of (lip_x (.inl rfl) (ab_sub _ _) h g) (lip_x (x' := x) (.inr (by omega)) (u' := 2 * a - x * y) ?_ g2 h) (Least.par h) (Least.par g) (by omega)
  have := ab_add ((2 * a - x * y) - y) y
  rw [show (2 * a - x * y) - y + y = 2 * a - x * y by omega] at this
  exact this
theorem St.w {x y a n m : Int} (h : St x y a n) (g : St (x - 1) y a m) : m = n + 1 ∨ m = n - 1 := by
  have := St.e g (by rw [show x - 1 + 1 = x by omega]; exact h)
  omega
theorem St.n {x y a n m : Int} (h : St x y a n) (g : St x (y + 1) (a + x) m) : m = n + 1 ∨ m = n - 1 := by
  unfold St at h g
  rw [un] at g
  have g2 := g
  refine one_of (lip_y (.inl rfl) (ab_add _ _) h g) (lip_y (y' := y) (.inr (by omega)) (u' := 2 * a - x * y) ?_ g2 h) (Least.par h) (Least.par g) (by omega)
  have := ab_sub ((2 * a - x * y) + x) x
  rw [show (2 * a - x * y) + x - x = 2 * a - x * y by omega] at this
  exact this
theorem St.s {x y a n m : Int} (h : St x y a n) (g : St x (y - 1) (a - x) m) : m = n + 1 ∨ m = n - 1 := by
  have := St.n g (by rw [show y - 1 + 1 = y by omega, show a - x + x = a by omega]; exact h)
  omega
theorem D.lt {x y u n m : Int} (d : D x y u n) (g : Least (ab x) (ab y) (ab u) m) : m < n := by
  obtain ⟨p, q, b, l⟩ := d
  have := g.low p q b
  omega
/-- some step leads one nearer -/
theorem St.nearer {x y a n me mw mn ms : Int} (h : St x y a n) (nz : ¬(x = 0 ∧ y = 0 ∧ a = 0)) (ge : St (x + 1) y a me) (gw : St (x - 1) y a mw) (gn : St x (y + 1) (a + x) mn) (gs : St x (y - 1) (a - x) ms) :
    me = n - 1 ∨ mw = n - 1 ∨ mn = n - 1 ∨ ms = n - 1 := by
  have oe := h.e ge
  have ow := h.w gw
  have on := h.n gn
  have os := h.s gs
  have d := near (st_par x y a) (by
    rintro ⟨rfl, rfl, h3⟩
    exact nz ⟨rfl, rfl, by omega⟩) h
  unfold St at ge gw gn gs
  rw [ue] at ge
  rw [uw] at gw
  rw [un] at gn
  rw [us] at gs
  rcases d with d | d | d | d
  · have := d.lt ge; omega
  · have := d.lt gw; omega
  · have := d.lt gn; omega
  · have := d.lt gs; omega
/-- the number of a product -/
theorem St.tri {x y a n : Int} (h : St x y a n) : ∀ (k : Nat) {z w c m t : Int}, St z w c m → m = k → St (x + z) (y + w) (a + c + x * w) t → t ≤ n + m := by
  intro k
  induction k with
  | zero =>
    intro z w c m t g e f
    have e0 : m = 0 := e
    obtain ⟨rfl, rfl, rfl⟩ := (St.home g).mp e0
    rw [Int.mul_zero, Int.add_zero, Int.add_zero, Int.add_zero, Int.add_zero] at f
    have := St.uniq h f
    omega
  | succ k ih =>
    intro z w c m t g e f
    have nz : ¬(z = 0 ∧ w = 0 ∧ c = 0) := fun q => by
      have := (St.home g).mpr q
      omega
    obtain ⟨me, ge⟩ := st_ex (z + 1) w c
    obtain ⟨mw, gw⟩ := st_ex (z - 1) w c
    obtain ⟨mn, gn⟩ := st_ex z (w + 1) (c + z)
    obtain ⟨ms, gs⟩ := st_ex z (w - 1) (c - z)
    rcases g.nearer nz ge gw gn gs with q | q | q | q
    · obtain ⟨t', f'⟩ := st_ex (x + (z + 1)) (y + w) (a + c + x * w)
      have i := ih ge (by omega) f'
      rw [show x + (z + 1) = x + z + 1 by omega] at f'
      have := f.e f'
      omega
    · obtain ⟨t', f'⟩ := st_ex (x + (z - 1)) (y + w) (a + c + x * w)
      have i := ih gw (by omega) f'
      rw [show x + (z - 1) = x + z - 1 by omega] at f'
      have := f.w f'
      omega
    · obtain ⟨t', f'⟩ := st_ex (x + z) (y + (w + 1)) (a + (c + z) + x * (w + 1))
      have i := ih gn (by omega) f'
      rw [show y + (w + 1) = y + w + 1 by omega, show a + (c + z) + x * (w + 1) = a + c + x * w + (x + z) by grind] at f'
      have := f.n f'
      omega
    · obtain ⟨t', f'⟩ := st_ex (x + z) (y + (w - 1)) (a + (c - z) + x * (w - 1))
      have i := ih gs (by omega) f'
      rw [show y + (w - 1) = y + w - 1 by omega, show a + (c - z) + x * (w - 1) = a + c + x * w - (x + z) by grind] at f'
      have := f.s f'
      omega
theorem St.triangle {x y a n z w c m t : Int} (h : St x y a n) (g : St z w c m) (f : St (x + z) (y + w) (a + c + x * w) t) : t ≤ n + m := h.tri m.toNat g (by have := g.pos; omega) f
theorem St.parity {x y a n z w c m t : Int} (h : St x y a n) (g : St z w c m) (f : St (x + z) (y + w) (a + c + x * w) t) : (n + m - t) % 2 = 0 := by
  have := Least.par h
  have := Least.par g
  have := Least.par f
  omega
end Fewest
namespace Fewest
section
variable {w h : Int} (hh : 1 ≤ h) (hw : h ≤ w)
include hh hw
end
end Fewest

namespace Fewest
/-- the width of the best box -/
def bestW (X Y s : Int) : Int := min (max ((X + Y + s) / 2) X) (X + s)
theorem bestW_in {X Y s : Int} (hX : 0 ≤ X) (hY : 0 ≤ Y) (hs : 0 ≤ s) : X ≤ bestW X Y s ∧ bestW X Y s ≤ X + s ∧ Y ≤ X + Y + s - bestW X Y s := by
  unfold bestW
  omega
theorem prod_nn {a b : Int} (h : (0 ≤ a ∧ 0 ≤ b) ∨ (a ≤ 0 ∧ b ≤ 0)) : 0 ≤ a * b := by
  rcases h with ⟨h1, h2⟩ | ⟨h1, h2⟩
  · exact Int.mul_nonneg h1 h2
  · have := Int.mul_nonneg (show 0 ≤ -a by omega) (show 0 ≤ -b by omega)
    rw [Int.neg_mul_neg] at this
    exact this
/-- no box of these sides is greater -/
theorem best_box {X Y s p q : Int} (hX : 0 ≤ X) (hY : 0 ≤ Y) (hs : 0 ≤ s) (hp : X ≤ p) (hq : Y ≤ q) (h : p + q ≤ X + Y + s) : p * q ≤ bestW X Y s * (X + Y + s - bestW X Y s) := by
  have e1 : p * q ≤ p * (X + Y + s - p) := Int.mul_le_mul_of_nonneg_left (by omega) (by omega)
  obtain ⟨W, hW⟩ : ∃ W, bestW X Y s = W := ⟨_, rfl⟩
  rw [hW]
  have e2 : 0 ≤ (W - p) * (X + Y + s - W - p) := by
    refine prod_nn ?_
    unfold bestW at hW
    omega
  have e3 : W * (X + Y + s - W) = p * (X + Y + s - p) + (W - p) * (X + Y + s - W - p) := by grind
  omega
/-- exactly the places with ground within the best box are reached by n steps -/
theorem reach {x y a n k s : Int} (h : St x y a k) (hs : n - ab x - ab y = 2 * s) (s0 : 0 ≤ s) :
    (k ≤ n ∧ (n - k) % 2 = 0) ↔ ab (2 * a - x * y) + ab x * ab y ≤ 2 * (bestW (ab x) (ab y) s * (ab x + ab y + s - bestW (ab x) (ab y) s)) := by
  have hX : 0 ≤ ab x := by unfold ab; omega
  have hY : 0 ≤ ab y := by unfold ab; omega
  have bi := bestW_in hX hY s0
  constructor
  · rintro ⟨h1, _⟩
    obtain ⟨p, q, ⟨b1, b2, b3⟩, e⟩ := h.has
    have := best_box hX hY s0 b1 b2 (by omega)
    omega
  · intro c
    have l := h.low _ _ ⟨bi.1, bi.2.2, c⟩
    refine ⟨by omega, ?_⟩
    have p := Least.par h
    unfold ab at hs
    omega
/-- fewer steps than the sides, or of the other parity: none -/
theorem none_of {x y a n k : Int} (h : St x y a k) (c : n < ab x + ab y ∨ (n - ab x - ab y) % 2 = 1) : ¬(k ≤ n ∧ (n - k) % 2 = 0) := by
  have g := Least.ge h
  have p := Least.par h
  unfold ab at *
  omega
end Fewest
namespace Fewest
end Fewest

set_option linter.all false
set_option maxHeartbeats 1000000
namespace Bz
/-- (a, b, r) with a * f + b * s = r -/
structure Tr where
  a : Int
  b : Int
  r : Int
def stp (l h : Tr) : Tr := ⟨l.a - l.r.fdiv h.r * h.a, l.b - l.r.fdiv h.r * h.b, l.r - l.r.fdiv h.r * h.r⟩
structure In (f s : Int) (l h : Tr) : Prop where
  el : l.a * f + l.b * s = l.r
  eh : h.a * f + h.b * s = h.r
  g : Nat.gcd l.r.natAbs h.r.natAbs = Nat.gcd f.natAbs s.natAbs
  fa : h.a.natAbs * l.r.natAbs + l.a.natAbs * h.r.natAbs ≤ f.natAbs + 2 * s.natAbs
  fb : h.b.natAbs * l.r.natAbs + l.b.natAbs * h.r.natAbs ≤ f.natAbs + 2 * s.natAbs
  la : l.a.natAbs ≤ f.natAbs + 2 * s.natAbs + 1
  lb : l.b.natAbs ≤ f.natAbs + 2 * s.natAbs + 1
  sg : 0 ≤ l.r * h.r
  lt : h.r.natAbs < l.r.natAbs
  lr : l.r.natAbs ≤ f.natAbs + s.natAbs
theorem fmod_sg (x y : Int) (h : y ≠ 0) : 0 ≤ y * (x - x.fdiv y * y) ∧ (x - x.fdiv y * y).natAbs < y.natAbs := by
  have e : x - x.fdiv y * y = x.fmod y := by
    have := Int.mul_fdiv_add_fmod x y
    rw [Int.mul_comm] at this
    omega
  rw [e]
  rcases Int.lt_or_gt_of_ne h with h | h
  · have h1 : x.fmod y = -((-x).fmod (-y)) := by rw [Int.neg_fmod_neg]; omega
    have h2 := Int.fmod_nonneg_of_pos (-x) (show 0 < -y by omega)
    have h3 := Int.fmod_lt_of_pos (-x) (show 0 < -y by omega)
    refine ⟨?_, by omega⟩
    rw [h1]
    have := Int.mul_nonneg (show 0 ≤ -y by omega) h2
    grind
  · have h2 := Int.fmod_nonneg_of_pos x h
    have h3 := Int.fmod_lt_of_pos x h
    exact ⟨Int.mul_nonneg (by omega) h2, by omega⟩
theorem gcd_stp (x y t : Int) : Nat.gcd y.natAbs (x - t * y).natAbs = Nat.gcd x.natAbs y.natAbs := by
  rw [← Int.gcd_eq_natAbs_gcd_natAbs, ← Int.gcd_eq_natAbs_gcd_natAbs]
  rw [Int.gcd_comm x y, Int.gcd_sub_mul_right_right]
theorem abs_sub_mul (a t b : Int) : (a - t * b).natAbs ≤ a.natAbs + t.natAbs * b.natAbs := by
  rw [← Int.natAbs_mul]
  omega
theorem sgn_neg {x y : Int} (h : y < 0) (s : 0 ≤ x * y) : x ≤ 0 := by
  apply Classical.byContradiction
  intro z
  have := Int.mul_neg_of_pos_of_neg (show 0 < x by omega) h
  omega
theorem sgn_pos {x y : Int} (h : 0 < y) (s : 0 ≤ x * y) : 0 ≤ x := by
  apply Classical.byContradiction
  intro z
  have := Int.mul_neg_of_neg_of_pos (show x < 0 by omega) h
  omega
/-- same sign: the quotient's parts add up -/
theorem add_up {x y : Int} (h : y ≠ 0) (sg : 0 ≤ x * y) : (x.fdiv y).natAbs * y.natAbs + (x - x.fdiv y * y).natAbs = x.natAbs := by
  obtain ⟨h1, h2⟩ := fmod_sg x y h
  generalize x.fdiv y = t at h1 h2 ⊢
  rw [← Int.natAbs_mul]
  rcases Int.lt_or_gt_of_ne h with h | h
  · have hx : x ≤ 0 := sgn_neg h sg
    have hr : x - t * y ≤ 0 := sgn_neg h (by rw [Int.mul_comm]; exact h1)
    have ht : t * y ≤ 0 := by
      apply Classical.byContradiction; intro z
      have ht0 : t < 0 := by
        apply Classical.byContradiction; intro z2
        have := Int.mul_nonneg (show 0 ≤ t by omega) (show 0 ≤ -y by omega)
        rw [Int.mul_neg] at this
        omega
      have := Int.mul_le_mul_of_nonpos_right (show t ≤ -1 by omega) (show y ≤ 0 by omega)
      omega
    omega
  · have hx : 0 ≤ x := sgn_pos h sg
    have hr : 0 ≤ x - t * y := sgn_pos h (by rw [Int.mul_comm]; exact h1)
    have ht : 0 ≤ t * y := by
      apply Classical.byContradiction; intro z
      have ht0 : t < 0 := by
        apply Classical.byContradiction; intro z2
        have := Int.mul_nonneg (show 0 ≤ t by omega) (show 0 ≤ y by omega)
        omega
      have := Int.mul_le_mul_of_nonneg_right (show t ≤ -1 by omega) (show 0 ≤ y by omega)
      omega
    omega
theorem pot_step (A A0 T R R' L : Nat) (h : T * R + R' = L) : (A0 + T * A) * R + A * R' = A * L + A0 * R := by
  subst h
  grind
theorem In.step {f s : Int} {l h : Tr} (I : In f s l h) (nz : h.r ≠ 0) : In f s h (stp l h) ∧ 2 * (h.r.natAbs * (stp l h).r.natAbs) < l.r.natAbs * h.r.natAbs := by
  obtain ⟨h1, h2⟩ := fmod_sg l.r h.r nz
  have au := add_up nz I.sg
  unfold stp
  dsimp only
  generalize l.r.fdiv h.r = t at h1 h2 au ⊢
  have a1 := abs_sub_mul l.a t h.a
  have b1 := abs_sub_mul l.b t h.b
  have p1 := pot_step h.a.natAbs l.a.natAbs t.natAbs h.r.natAbs (l.r - t * h.r).natAbs l.r.natAbs au
  have p2 := pot_step h.b.natAbs l.b.natAbs t.natAbs h.r.natAbs (l.r - t * h.r).natAbs l.r.natAbs au
  have m1 := Nat.mul_le_mul_right h.r.natAbs a1
  have m2 := Nat.mul_le_mul_right h.r.natAbs b1
  have lpos : 1 ≤ l.r.natAbs := by have := I.lt; omega
  have q1 := Nat.mul_le_mul_left h.a.natAbs lpos
  have q2 := Nat.mul_le_mul_left h.b.natAbs lpos
  have fa := I.fa
  have fb := I.fb
  refine ⟨⟨I.eh, ?_, ?_, ?_, ?_, ?_, ?_, h1, h2, by have := I.lt; have := I.lr; omega⟩, ?_⟩
  · have e1 := I.el
    have e2 := I.eh
    dsimp only
    grind
  · rw [gcd_stp]; exact I.g
  · dsimp only; omega
  · dsimp only; omega
  · rw [Nat.mul_one] at q1
    have : 0 ≤ l.a.natAbs * h.r.natAbs := Nat.zero_le _
    omega
  · rw [Nat.mul_one] at q2
    have : 0 ≤ l.b.natAbs * h.r.natAbs := Nat.zero_le _
    omega
  · -- halving
    have tp : 1 ≤ t.natAbs := by
      have hl := I.lt
      apply Classical.byContradiction
      intro z
      have z : t.natAbs = 0 := by omega
      rw [z] at au
      omega
    have t1 := Nat.mul_le_mul_right h.r.natAbs tp
    have hl : 2 * (l.r - t * h.r).natAbs < l.r.natAbs := by omega
    have hp : 0 < h.r.natAbs := by omega
    have := Nat.mul_lt_mul_of_pos_right hl hp
    rw [Nat.mul_comm h.r.natAbs, ← Nat.mul_assoc]
    exact this
theorem In.first (f s : Int) (nz : s ≠ 0) : In f s ⟨0, 1, s⟩ (stp ⟨1, 0, f⟩ ⟨0, 1, s⟩) := by
  obtain ⟨h1, h2⟩ := fmod_sg f s nz
  unfold stp
  dsimp only
  have tb : (f.fdiv s).natAbs * s.natAbs ≤ f.natAbs + s.natAbs := by
    rw [← Int.natAbs_mul]
    omega
  generalize f.fdiv s = t at h1 h2 tb ⊢
  have tl : t.natAbs ≤ f.natAbs + s.natAbs := by
    have : 1 ≤ s.natAbs := by omega
    have := Nat.mul_le_mul_left t.natAbs this
    omega
  refine ⟨by dsimp only; omega, by dsimp only; grind, ?_, ?_, ?_, by dsimp only; omega, by dsimp only; omega, h1, h2, by dsimp only; omega⟩
  · rw [gcd_stp]
  · dsimp only; simp; omega
  · dsimp only
    have e1 : (0 - t * 1).natAbs = t.natAbs := by omega
    rw [e1]
    have : (1 : Int).natAbs = 1 := rfl
    rw [this, Nat.one_mul]
    omega
/-- at the end -/
theorem In.last {f s : Int} {l h : Tr} (I : In f s l h) (z : h.r = 0) : l.r.natAbs = Nat.gcd f.natAbs s.natAbs := by
  have := I.g
  rw [z] at this
  simpa using this
/-- at any time -/
def WI (f s : Int) (l h : Tr) : Prop := (l = ⟨1, 0, f⟩ ∧ h = ⟨0, 1, s⟩) ∨ In f s l h
theorem WI.step {f s : Int} {l h : Tr} (I : WI f s l h) (nz : h.r ≠ 0) : In f s h (stp l h) := by
  rcases I with ⟨rfl, rfl⟩ | I
  · exact In.first f s nz
  · exact (I.step nz).1
theorem In.ha {f s : Int} {l h : Tr} (I : In f s l h) : h.a.natAbs ≤ f.natAbs + 2 * s.natAbs ∧ h.b.natAbs ≤ f.natAbs + 2 * s.natAbs := by
  have lpos : 1 ≤ l.r.natAbs := by have := I.lt; omega
  have q1 := Nat.mul_le_mul_left h.a.natAbs lpos
  have q2 := Nat.mul_le_mul_left h.b.natAbs lpos
  have fa := I.fa
  have fb := I.fb
  rw [Nat.mul_one] at q1 q2
  omega
theorem WI.bd {f s : Int} {l h : Tr} (I : WI f s l h) : l.a.natAbs ≤ f.natAbs + 2 * s.natAbs + 1 ∧ l.b.natAbs ≤ f.natAbs + 2 * s.natAbs + 1 ∧ l.r.natAbs ≤ f.natAbs + s.natAbs ∧ h.a.natAbs ≤ f.natAbs + 2 * s.natAbs + 1 ∧ h.b.natAbs ≤ f.natAbs + 2 * s.natAbs + 1 ∧ h.r.natAbs ≤ f.natAbs + s.natAbs := by
  rcases I with ⟨rfl, rfl⟩ | I
  · dsimp only
    refine ⟨?_, ?_, ?_, ?_, ?_, ?_⟩ <;> omega
  · obtain ⟨h1, h2⟩ := I.ha
    have := I.la
    have := I.lb
    have := I.lr
    have := I.lt
    refine ⟨?_, ?_, ?_, ?_, ?_, ?_⟩ <;> omega
theorem WI.out {f s : Int} {l h : Tr} (I : WI f s l h) (z : h.r = 0) : (l.r < 0 → -l.a * f + -l.b * s = (Nat.gcd f.natAbs s.natAbs : Int)) ∧ (¬ l.r < 0 → l.a * f + l.b * s = (Nat.gcd f.natAbs s.natAbs : Int)) := by
  rcases I with ⟨rfl, rfl⟩ | I
  · dsimp only at z ⊢
    subst z
    simp
    omega
  · have e := I.el
    have g := I.last z
    constructor
    · intro n
      have : -l.a * f + -l.b * s = -(l.a * f + l.b * s) := by grind
      omega
    · intro n
      omega
/-- a loop of so many rounds -/
def MI (i : Nat) (f s : Int) (l h : Tr) : Prop := (i = 0 ∧ l = ⟨1, 0, f⟩ ∧ h = ⟨0, 1, s⟩) ∨ (0 < i ∧ In f s l h ∧ 2 ^ (i - 1) * (l.r.natAbs * h.r.natAbs) < 2 ^ 2003)
theorem MI.wi {i : Nat} {f s : Int} {l h : Tr} (I : MI i f s l h) : WI f s l h := by
  rcases I with ⟨_, e⟩ | ⟨_, I, _⟩
  · exact .inl e
  · exact .inr I
theorem MI.step {i : Nat} {f s : Int} {l h : Tr} (I : MI i f s l h) (hs : s.natAbs < 2 ^ 1000) (nz : h.r ≠ 0) : MI (i + 1) f s h (stp l h) := by
  refine .inr ⟨Nat.succ_pos _, I.wi.step nz, ?_⟩
  rw [Nat.add_sub_cancel]
  rcases I with ⟨rfl, rfl, rfl⟩ | ⟨hi, I, hp⟩
  · have h2 := (In.first f s nz).lt
    dsimp only at h2 ⊢
    rw [Nat.pow_zero, Nat.one_mul]
    have := Nat.mul_lt_mul_of_lt_of_lt hs (Nat.lt_trans h2 hs)
    have e : (2 : Nat) ^ 1000 * 2 ^ 1000 < 2 ^ 2003 := by rw [← Nat.pow_add]; exact Nat.pow_lt_pow_right (by decide) (by decide)
    exact Nat.lt_trans this e
  · have h2 := (I.step nz).2
    obtain ⟨j, rfl⟩ : ∃ j, i = j + 1 := ⟨i - 1, by omega⟩
    rw [Nat.add_sub_cancel] at hp
    have h3 := Nat.mul_le_mul_left (2 ^ j) (Nat.le_of_lt h2)
    rw [Nat.pow_succ, Nat.mul_assoc]
    exact Nat.lt_of_le_of_lt h3 hp
theorem MI.out {f s : Int} {l h : Tr} (I : MI 3000 f s l h) : h.r = 0 := by
  rcases I with ⟨z, _⟩ | ⟨_, I, hp⟩
  · omega
  · apply Classical.byContradiction
    intro z
    have h1 : 1 ≤ l.r.natAbs * h.r.natAbs := Nat.mul_pos (by have := I.lt; omega) (by omega)
    have h2 := Nat.mul_le_mul_left (2 ^ (3000 - 1)) h1
    rw [Nat.mul_one] at h2
    have e : (2 : Nat) ^ 2003 < 2 ^ (3000 - 1) := Nat.pow_lt_pow_right (by decide) (by decide)
    omega
/-- the same for the divisor alone -/
def GI (i : Nat) (x y : Nat) : Prop := x < 2 ^ 1000 ∧ y < 2 ^ 1000 ∧ (i = 0 ∨ (0 < i ∧ y < x ∧ 2 ^ (i - 1) * (x * y) < 2 ^ 2003))
theorem GI.step {i x y : Nat} (I : GI i x y) (nz : y ≠ 0) : GI (i + 1) y (x % y) := by
  obtain ⟨hx, hy, hp⟩ := I
  have hm : x % y < y := Nat.mod_lt _ (by omega)
  refine ⟨hy, by omega, .inr ⟨Nat.succ_pos _, hm, ?_⟩⟩
  rw [Nat.add_sub_cancel]
  rcases hp with rfl | ⟨hi, hl, hp⟩
  · rw [Nat.pow_zero, Nat.one_mul]
    have := Nat.mul_lt_mul_of_lt_of_lt hy (Nat.lt_trans hm hy)
    have e : (2 : Nat) ^ 1000 * 2 ^ 1000 < 2 ^ 2003 := by rw [← Nat.pow_add]; exact Nat.pow_lt_pow_right (by decide) (by decide)
    exact Nat.lt_trans this e
  · obtain ⟨j, rfl⟩ : ∃ j, i = j + 1 := ⟨i - 1, by omega⟩
    rw [Nat.add_sub_cancel] at hp
    have h2 : 2 * (x % y) ≤ x := by
      have e := Nat.div_add_mod x y
      have q : 1 ≤ x / y := Nat.div_pos (by omega) (by omega)
      have := Nat.mul_le_mul_left y q
      omega
    have h3 : 2 * (y * (x % y)) ≤ x * y := by
      have := Nat.mul_le_mul_left y h2
      rw [Nat.mul_comm x y]
      have e : y * (2 * (x % y)) = 2 * (y * (x % y)) := by grind
      omega
    have h4 := Nat.mul_le_mul_left (2 ^ j) h3
    rw [Nat.pow_succ, Nat.mul_assoc]
    exact Nat.lt_of_le_of_lt h4 hp
theorem GI.out {x y : Nat} (I : GI 3000 x y) : y = 0 := by
  obtain ⟨_, _, z | ⟨_, hl, hp⟩⟩ := I
  · omega
  · apply Classical.byContradiction
    intro z
    have h1 : 1 ≤ x * y := Nat.mul_pos (by omega) (by omega)
    have h2 := Nat.mul_le_mul_left (2 ^ (3000 - 1)) h1
    rw [Nat.mul_one] at h2
    have e : (2 : Nat) ^ 2003 < 2 ^ (3000 - 1) := Nat.pow_lt_pow_right (by decide) (by decide)
    omega
end Bz

set_option linter.all false
set_option maxRecDepth 100000
set_option maxHeartbeats 4000000
namespace AW
open PySem PySem.Spec PyProof.Rows L2
def top (i : Nat) : Stmt := PySem.Challenge.pw_areawalks_k57_whole_prices_compared.main.body.getD i (.Pass ⟨0, 0, 0, 0⟩)
abbrev s_fewest_steps : Stmt := top 3
abbrev s_quotient_up : Stmt := top 4
abbrev s_half_outline : Stmt := top 5
abbrev s_BadNumber_init : Stmt := inClass (top 8) 0
abbrev s_BadPlace_init : Stmt := inClass (top 9) 0
abbrev s_BadWord_init : Stmt := inClass (top 10) 0
abbrev s_is_integer : Stmt := top 13
abbrev s_is_whole : Stmt := top 14
abbrev s_check_integer : Stmt := top 15
abbrev s_check_from : Stmt := top 16
abbrev s_Place_init : Stmt := inClass (top 18) 0
abbrev s_check_place : Stmt := top 19
abbrev s_bezout : Stmt := top 21
abbrev s_cheapest_frame : Stmt := top 24
abbrev s_Bargain_init : Stmt := inClass (top 25) 0
abbrev s_Bargain_best : Stmt := inClass (top 25) 1
abbrev s_Bargain_frame_by_widths : Stmt := inClass (top 25) 2
abbrev s_Bargain_may_be_cheaper : Stmt := inClass (top 25) 3
abbrev s_Bargain_frame_by_costs : Stmt := inClass (top 25) 4
abbrev s_Bargain_least_cost : Stmt := inClass (top 25) 5
abbrev s_Bargain_frame_of_cost : Stmt := inClass (top 25) 6
abbrev s_is_run : Stmt := top 31
abbrev s_joined_runs : Stmt := top 32
abbrev s_told_runs : Stmt := top 34
abbrev s_Walk_init : Stmt := inClass (top 38) 0
abbrev s_Prices_init : Stmt := inClass (top 46) 0
abbrev s_Prices_price_of : Stmt := inClass (top 46) 2
abbrev s_Prices_least_price : Stmt := inClass (top 46) 3
abbrev s_Prices_frame : Stmt := inClass (top 46) 5
abbrev s_steps : Stmt := top 48
abbrev s_l_begin : Stmt := top 50
abbrev s_l_draw : Stmt := top 51
abbrev s_l_pick : Stmt := top 52
abbrev s_l_number : Stmt := top 53
abbrev s_l_great : Stmt := top 54
abbrev s_l_signed : Stmt := top 55
abbrev s_l_step : Stmt := top 56
abbrev s_l_led : Stmt := top 57
abbrev s_l_behind : Stmt := top 58
abbrev s_l_back : Stmt := top 59
abbrev s_l_place : Stmt := top 60
abbrev s_l_counts : Stmt := top 61
abbrev s_l_made : Stmt := top 62
abbrev s_l_spot : Stmt := top 63
abbrev s_l_mirrors_right : Stmt := top 64
abbrev s_l_walks_right : Stmt := top 65
abbrev s_law : Stmt := top 66
abbrev N_fewest_steps : List Str := ["place", "longer", "shorter", "area"]
abbrev P_fewest_steps : List Str := ["place"]
theorem sc_fewest_steps : FnScope N_fewest_steps P_fewest_steps (defScope s_fewest_steps) := ⟨rfl, rfl, rfl, by decide +kernel, rfl, by decide +kernel, by decide +kernel⟩
abbrev N_quotient_up : List Str := ["number", "divisor"]
abbrev P_quotient_up : List Str := ["number", "divisor"]
theorem sc_quotient_up : FnScope N_quotient_up P_quotient_up (defScope s_quotient_up) := ⟨rfl, rfl, rfl, by decide +kernel, rfl, by decide +kernel, by decide +kernel⟩
abbrev N_half_outline : List Str := ["area"]
abbrev P_half_outline : List Str := ["area"]
theorem sc_half_outline : FnScope N_half_outline P_half_outline (defScope s_half_outline) := ⟨rfl, rfl, rfl, by decide +kernel, rfl, by decide +kernel, by decide +kernel⟩
abbrev N_BadNumber_init : List Str := ["self", "value"]
abbrev P_BadNumber_init : List Str := ["self", "value"]
theorem sc_BadNumber_init : FnScope N_BadNumber_init P_BadNumber_init (defScope s_BadNumber_init) := ⟨rfl, rfl, rfl, by decide +kernel, rfl, by decide +kernel, by decide +kernel⟩
abbrev N_BadPlace_init : List Str := ["self", "value"]
abbrev P_BadPlace_init : List Str := ["self", "value"]
theorem sc_BadPlace_init : FnScope N_BadPlace_init P_BadPlace_init (defScope s_BadPlace_init) := ⟨rfl, rfl, rfl, by decide +kernel, rfl, by decide +kernel, by decide +kernel⟩
abbrev N_BadWord_init : List Str := ["self", "value"]
abbrev P_BadWord_init : List Str := ["self", "value"]
theorem sc_BadWord_init : FnScope N_BadWord_init P_BadWord_init (defScope s_BadWord_init) := ⟨rfl, rfl, rfl, by decide +kernel, rfl, by decide +kernel, by decide +kernel⟩
abbrev N_is_integer : List Str := ["value"]
abbrev P_is_integer : List Str := ["value"]
theorem sc_is_integer : FnScope N_is_integer P_is_integer (defScope s_is_integer) := ⟨rfl, rfl, rfl, by decide +kernel, rfl, by decide +kernel, by decide +kernel⟩
abbrev N_is_whole : List Str := ["value"]
abbrev P_is_whole : List Str := ["value"]
theorem sc_is_whole : FnScope N_is_whole P_is_whole (defScope s_is_whole) := ⟨rfl, rfl, rfl, by decide +kernel, rfl, by decide +kernel, by decide +kernel⟩
abbrev N_check_integer : List Str := ["value"]
abbrev P_check_integer : List Str := ["value"]
theorem sc_check_integer : FnScope N_check_integer P_check_integer (defScope s_check_integer) := ⟨rfl, rfl, rfl, by decide +kernel, rfl, by decide +kernel, by decide +kernel⟩
abbrev N_check_from : List Str := ["value", "least"]
abbrev P_check_from : List Str := ["value", "least"]
theorem sc_check_from : FnScope N_check_from P_check_from (defScope s_check_from) := ⟨rfl, rfl, rfl, by decide +kernel, rfl, by decide +kernel, by decide +kernel⟩
abbrev N_Place_init : List Str := ["self", "x", "y", "area", "value"]
abbrev P_Place_init : List Str := ["self", "x", "y", "area"]
theorem sc_Place_init : FnScope N_Place_init P_Place_init (defScope s_Place_init) := ⟨rfl, rfl, rfl, by decide +kernel, rfl, by decide +kernel, by decide +kernel⟩
abbrev N_check_place : List Str := ["value"]
abbrev P_check_place : List Str := ["value"]
theorem sc_check_place : FnScope N_check_place P_check_place (defScope s_check_place) := ⟨rfl, rfl, rfl, by decide +kernel, rfl, by decide +kernel, by decide +kernel⟩
abbrev N_bezout : List Str := ["first", "second", "low", "high", "times", "one", "other"]
abbrev P_bezout : List Str := ["first", "second"]
theorem sc_bezout : FnScope N_bezout P_bezout (defScope s_bezout) := ⟨rfl, rfl, rfl, by decide +kernel, rfl, by decide +kernel, by decide +kernel⟩
abbrev N_cheapest_frame : List Str := ["across", "up", "product", "wide", "high", "height", "width"]
abbrev P_cheapest_frame : List Str := ["across", "up", "product", "wide", "high"]
theorem sc_cheapest_frame : FnScope N_cheapest_frame P_cheapest_frame (defScope s_cheapest_frame) := ⟨rfl, rfl, rfl, by decide +kernel, rfl, by decide +kernel, by decide +kernel⟩
abbrev N_Bargain_init : List Str := ["self", "across", "up", "product", "wide", "high", "common"]
abbrev P_Bargain_init : List Str := ["self", "across", "up", "product", "wide", "high"]
theorem sc_Bargain_init : FnScope N_Bargain_init P_Bargain_init (defScope s_Bargain_init) := ⟨rfl, rfl, rfl, by decide +kernel, rfl, by decide +kernel, by decide +kernel⟩
abbrev N_Bargain_best : List Str := ["self", "best", "start", "square", "rise"]
abbrev P_Bargain_best : List Str := ["self"]
theorem sc_Bargain_best : FnScope N_Bargain_best P_Bargain_best (defScope s_Bargain_best) := ⟨rfl, rfl, rfl, by decide +kernel, rfl, by decide +kernel, by decide +kernel⟩
abbrev N_Bargain_frame_by_widths : List Str := ["self", "start", "best", "first", "step", "width", "height", "found"]
abbrev P_Bargain_frame_by_widths : List Str := ["self", "start"]
theorem sc_Bargain_frame_by_widths : FnScope N_Bargain_frame_by_widths P_Bargain_frame_by_widths (defScope s_Bargain_frame_by_widths) := ⟨rfl, rfl, rfl, by decide +kernel, rfl, by decide +kernel, by decide +kernel⟩
abbrev N_Bargain_may_be_cheaper : List Str := ["self", "width", "best"]
abbrev P_Bargain_may_be_cheaper : List Str := ["self", "width", "best"]
theorem sc_Bargain_may_be_cheaper : FnScope N_Bargain_may_be_cheaper P_Bargain_may_be_cheaper (defScope s_Bargain_may_be_cheaper) := ⟨rfl, rfl, rfl, by decide +kernel, rfl, by decide +kernel, by decide +kernel⟩
abbrev N_Bargain_frame_by_costs : List Str := ["self", "turn", "cost", "found"]
abbrev P_Bargain_frame_by_costs : List Str := ["self"]
theorem sc_Bargain_frame_by_costs : FnScope N_Bargain_frame_by_costs P_Bargain_frame_by_costs (defScope s_Bargain_frame_by_costs) := ⟨rfl, rfl, rfl, by decide +kernel, rfl, by decide +kernel, by decide +kernel⟩
abbrev N_Bargain_least_cost : List Str := ["self", "wide", "high", "product"]
abbrev P_Bargain_least_cost : List Str := ["self"]
theorem sc_Bargain_least_cost : FnScope N_Bargain_least_cost P_Bargain_least_cost (defScope s_Bargain_least_cost) := ⟨rfl, rfl, rfl, by decide +kernel, rfl, by decide +kernel, by decide +kernel⟩
abbrev N_Bargain_frame_of_cost : List Str := ["self", "cost", "some_width", "peak", "below", "width", "height"]
abbrev P_Bargain_frame_of_cost : List Str := ["self", "cost", "some_width"]
theorem sc_Bargain_frame_of_cost : FnScope N_Bargain_frame_of_cost P_Bargain_frame_of_cost (defScope s_Bargain_frame_of_cost) := ⟨rfl, rfl, rfl, by decide +kernel, rfl, by decide +kernel, by decide +kernel⟩
abbrev N_is_run : List Str := ["pair", "letter", "times"]
abbrev P_is_run : List Str := ["pair"]
theorem sc_is_run : FnScope N_is_run P_is_run (defScope s_is_run) := ⟨rfl, rfl, rfl, by decide +kernel, rfl, by decide +kernel, by decide +kernel⟩
abbrev N_joined_runs : List Str := ["pairs", "runs", "last", "count", "letter", "times"]
abbrev P_joined_runs : List Str := ["pairs"]
theorem sc_joined_runs : FnScope N_joined_runs P_joined_runs (defScope s_joined_runs) := ⟨rfl, rfl, rfl, by decide +kernel, rfl, by decide +kernel, by decide +kernel⟩
abbrev N_told_runs : List Str := ["told", "letter", "pair"]
abbrev P_told_runs : List Str := ["told"]
theorem sc_told_runs : FnScope N_told_runs P_told_runs (defScope s_told_runs) := ⟨rfl, rfl, rfl, by decide +kernel, rfl, by decide +kernel, by decide +kernel⟩
abbrev N_Walk_init : List Str := ["self", "told", "runs"]
abbrev P_Walk_init : List Str := ["self", "told"]
theorem sc_Walk_init : FnScope N_Walk_init P_Walk_init (defScope s_Walk_init) := ⟨rfl, rfl, rfl, by decide +kernel, rfl, by decide +kernel, by decide +kernel⟩
abbrev N_Prices_init : List Str := ["self", "east", "north", "west", "south", "value"]
abbrev P_Prices_init : List Str := ["self", "east", "north", "west", "south"]
theorem sc_Prices_init : FnScope N_Prices_init P_Prices_init (defScope s_Prices_init) := ⟨rfl, rfl, rfl, by decide +kernel, rfl, by decide +kernel, by decide +kernel⟩
abbrev N_Prices_price_of : List Str := ["self", "walk", "prices", "letter", "times"]
abbrev P_Prices_price_of : List Str := ["self", "walk"]
theorem sc_Prices_price_of : FnScope N_Prices_price_of P_Prices_price_of (defScope s_Prices_price_of) := ⟨rfl, rfl, rfl, by decide +kernel, rfl, by decide +kernel, by decide +kernel⟩
abbrev N_Prices_least_price : List Str := ["self", "place", "across", "up", "width", "height", "straight"]
abbrev P_Prices_least_price : List Str := ["self", "place"]
theorem sc_Prices_least_price : FnScope N_Prices_least_price P_Prices_least_price (defScope s_Prices_least_price) := ⟨rfl, rfl, rfl, by decide +kernel, rfl, by decide +kernel, by decide +kernel⟩
abbrev N_Prices_frame : List Str := ["self", "place", "flat", "product"]
abbrev P_Prices_frame : List Str := ["self", "place"]
theorem sc_Prices_frame : FnScope N_Prices_frame P_Prices_frame (defScope s_Prices_frame) := ⟨rfl, rfl, rfl, by decide +kernel, rfl, by decide +kernel, by decide +kernel⟩
abbrev N_steps : List Str := ["place"]
abbrev P_steps : List Str := ["place"]
theorem sc_steps : FnScope N_steps P_steps (defScope s_steps) := ⟨rfl, rfl, rfl, by decide +kernel, rfl, by decide +kernel, by decide +kernel⟩
abbrev N_l_begin : List Str := ["_law_script"]
abbrev P_l_begin : List Str := ["_law_script"]
theorem sc_l_begin : FnScope N_l_begin P_l_begin (defScope s_l_begin) := ⟨rfl, rfl, rfl, by decide +kernel, rfl, by decide +kernel, by decide +kernel⟩
abbrev N_l_draw : List Str := ["_law_pen", "_law_span", "_law_digit", "_law_at", "_law_cell", "_law_n"]
abbrev P_l_draw : List Str := ["_law_pen", "_law_span"]
theorem sc_l_draw : FnScope N_l_draw P_l_draw (defScope s_l_draw) := ⟨rfl, rfl, rfl, by decide +kernel, rfl, by decide +kernel, by decide +kernel⟩
abbrev N_l_pick : List Str := ["_law_pen", "_law_some"]
abbrev P_l_pick : List Str := ["_law_pen", "_law_some"]
theorem sc_l_pick : FnScope N_l_pick P_l_pick (defScope s_l_pick) := ⟨rfl, rfl, rfl, by decide +kernel, rfl, by decide +kernel, by decide +kernel⟩
abbrev N_l_number : List Str := ["_law_pen", "_law_groups", "_law_found", "_law_k"]
abbrev P_l_number : List Str := ["_law_pen", "_law_groups"]
theorem sc_l_number : FnScope N_l_number P_l_number (defScope s_l_number) := ⟨rfl, rfl, rfl, by decide +kernel, rfl, by decide +kernel, by decide +kernel⟩
abbrev N_l_great : List Str := ["_law_pen"]
abbrev P_l_great : List Str := ["_law_pen"]
theorem sc_l_great : FnScope N_l_great P_l_great (defScope s_l_great) := ⟨rfl, rfl, rfl, by decide +kernel, rfl, by decide +kernel, by decide +kernel⟩
abbrev N_l_signed : List Str := ["_law_pen"]
abbrev P_l_signed : List Str := ["_law_pen"]
theorem sc_l_signed : FnScope N_l_signed P_l_signed (defScope s_l_signed) := ⟨rfl, rfl, rfl, by decide +kernel, rfl, by decide +kernel, by decide +kernel⟩
abbrev N_l_step : List Str := ["_law_spot_here", "_law_letter", "_law_times", "_law_x", "_law_y", "_law_area"]
abbrev P_l_step : List Str := ["_law_spot_here", "_law_letter", "_law_times"]
theorem sc_l_step : FnScope N_l_step P_l_step (defScope s_l_step) := ⟨rfl, rfl, rfl, by decide +kernel, rfl, by decide +kernel, by decide +kernel⟩
abbrev N_l_led : List Str := ["_law_runs", "_law_spot_here", "_law_letter", "_law_times"]
abbrev P_l_led : List Str := ["_law_runs"]
theorem sc_l_led : FnScope N_l_led P_l_led (defScope s_l_led) := ⟨rfl, rfl, rfl, by decide +kernel, rfl, by decide +kernel, by decide +kernel⟩
abbrev N_l_behind : List Str := ["_law_one", "_law_other"]
abbrev P_l_behind : List Str := ["_law_one", "_law_other"]
theorem sc_l_behind : FnScope N_l_behind P_l_behind (defScope s_l_behind) := ⟨rfl, rfl, rfl, by decide +kernel, rfl, by decide +kernel, by decide +kernel⟩
abbrev N_l_back : List Str := ["_law_spot_here"]
abbrev P_l_back : List Str := ["_law_spot_here"]
theorem sc_l_back : FnScope N_l_back P_l_back (defScope s_l_back) := ⟨rfl, rfl, rfl, by decide +kernel, rfl, by decide +kernel, by decide +kernel⟩
abbrev N_l_place : List Str := ["_law_spot_here"]
abbrev P_l_place : List Str := ["_law_spot_here"]
theorem sc_l_place : FnScope N_l_place P_l_place (defScope s_l_place) := ⟨rfl, rfl, rfl, by decide +kernel, rfl, by decide +kernel, by decide +kernel⟩
abbrev N_l_counts : List Str := ["_law_runs", "_law_kind", "_law_letter", "_law_times"]
abbrev P_l_counts : List Str := ["_law_runs"]
theorem sc_l_counts : FnScope N_l_counts P_l_counts (defScope s_l_counts) := ⟨rfl, rfl, rfl, by decide +kernel, rfl, by decide +kernel, by decide +kernel⟩
abbrev N_l_made : List Str := ["_law_prices"]
abbrev P_l_made : List Str := ["_law_prices"]
theorem sc_l_made : FnScope N_l_made P_l_made (defScope s_l_made) := ⟨rfl, rfl, rfl, by decide +kernel, rfl, by decide +kernel, by decide +kernel⟩
abbrev N_l_spot : List Str := ["_law_pen", "_law_x", "_law_y"]
abbrev P_l_spot : List Str := ["_law_pen"]
theorem sc_l_spot : FnScope N_l_spot P_l_spot (defScope s_l_spot) := ⟨rfl, rfl, rfl, by decide +kernel, rfl, by decide +kernel, by decide +kernel⟩
abbrev N_l_mirrors_right : List Str := ["_law_prices", "_law_spot_here", "_law_due", "_law_east", "_law_north", "_law_west", "_law_south", "_law_x", "_law_y", "_law_area", "_law_rows", "_law_others", "_law_there"]
abbrev P_l_mirrors_right : List Str := ["_law_prices", "_law_spot_here", "_law_due"]
theorem sc_l_mirrors_right : FnScope N_l_mirrors_right P_l_mirrors_right (defScope s_l_mirrors_right) := ⟨rfl, rfl, rfl, by decide +kernel, rfl, by decide +kernel, by decide +kernel⟩
abbrev N_l_walks_right : List Str := ["_law_pen", "_law_told", "_law_prices", "_law_runs", "_law_walk", "_law_counts_here", "_law_price", "_law_k"]
abbrev P_l_walks_right : List Str := ["_law_pen", "_law_told", "_law_prices"]
theorem sc_l_walks_right : FnScope N_l_walks_right P_l_walks_right (defScope s_l_walks_right) := ⟨rfl, rfl, rfl, by decide +kernel, rfl, by decide +kernel, by decide +kernel⟩
abbrev N_law : List Str := ["_law_script", "_law_pen", "_law_turn", "_law_prices", "_law_times", "_law_told", "_law_spot_here", "_law_other", "_law_due", "_law_dearer", "_law_at", "_law_both", "_law_k", "_law_price"]
abbrev P_law : List Str := ["_law_script"]
theorem sc_law : FnScope N_law P_law (defScope s_law) := ⟨rfl, rfl, rfl, by decide +kernel, rfl, by decide +kernel, by decide +kernel⟩
/-- a def whose code object is known -/
structure FunC (K : PySem.W.Frag) (x qual : Str) (st : Stmt) (f : Addr) (fd : FuncData) (c : Addr) : Prop where
  ex : ∃ (oc : Value) (od : Option Addr) (kV doc pm : Value) (an : Option Addr) (ct : Value) (osl : Array (Option Value)),
    fd = PySem.W.fnOf x qual (defArgs st) (defBody st) (defScope st) .none kV doc pm an (.ref c) ct ∧ K.lookup f = some ⟨oc, od, .func fd, osl⟩ ∧ PySem.W.codeIn K (.ref c) qual = true
  kp : PySem.W.keepIn K (.ref f) = true
section
variable {P : Program} {w : World} {K : PySem.W.Frag} {mg : Str → Option Value} {base : Heap}
theorem FunC.okX {x qual : Str} {st : Stmt} {f : Addr} {fd : FuncData} {c : Addr} {N ps : List Str} {k : Nat} {sp : Sp} (F : FunC K x qual st f fd c) (S : FnScope N ps (defScope st)) (len : ∀ vs H Q E, sp vs H Q E → vs.length = ps.length)
    (hbody : ∀ (A : Around) (outer : List Env) (s : Shared) (H : Hp) (vs : List V) (Q : VK) (E : XK), Room k (A.deeper (envOfC qual (defScope st) s.heap.objs.size f (.ref c))) → sp vs H Q E →
      ∃ t, PSs (cxOf (L2.CX P w) P w K mg base N qual (defScope st) f (.ref c) A outer s H E) (defBody st) t ∧ t { nx := fun _ H' => Q .non H', rt := Q } (start N vs) H) : FnOk P w K mg base (L2.CX P w) (k + 1) f fd ps sp := by
  obtain ⟨oc, od, kV, doc, pm, an, ct, osl, rfl, lk, hcd⟩ := F.ex
  exact fn_of lk hcd S len fun A outer s H vs Q E hr hsp => hbody A outer s H vs Q E hr hsp
end
set_option genInjectivity false in
set_option genSizeOf false in
set_option genSizeOfSpec false in
/-- what the top has left -/
structure Tx (K : PySem.W.Frag) (mg : Str → Option Value) where
  a_fewest_steps : Addr
  d_fewest_steps : FuncData
  F_fewest_steps : Fun K "fewest_steps" "fewest_steps" s_fewest_steps a_fewest_steps d_fewest_steps
  b_fewest_steps : Binds K d_fewest_steps P_fewest_steps []
  g_fewest_steps : mg "fewest_steps" = some (.ref a_fewest_steps)
  a_quotient_up : Addr
  d_quotient_up : FuncData
  F_quotient_up : Fun K "quotient_up" "quotient_up" s_quotient_up a_quotient_up d_quotient_up
  b_quotient_up : Binds K d_quotient_up P_quotient_up []
  g_quotient_up : mg "quotient_up" = some (.ref a_quotient_up)
  a_half_outline : Addr
  d_half_outline : FuncData
  F_half_outline : Fun K "half_outline" "half_outline" s_half_outline a_half_outline d_half_outline
  b_half_outline : Binds K d_half_outline P_half_outline []
  g_half_outline : mg "half_outline" = some (.ref a_half_outline)
  a_is_integer : Addr
  d_is_integer : FuncData
  F_is_integer : Fun K "is_integer" "is_integer" s_is_integer a_is_integer d_is_integer
  b_is_integer : Binds K d_is_integer P_is_integer []
  g_is_integer : mg "is_integer" = some (.ref a_is_integer)
  a_is_whole : Addr
  d_is_whole : FuncData
  F_is_whole : Fun K "is_whole" "is_whole" s_is_whole a_is_whole d_is_whole
  b_is_whole : Binds K d_is_whole P_is_whole []
  g_is_whole : mg "is_whole" = some (.ref a_is_whole)
  a_check_integer : Addr
  d_check_integer : FuncData
  F_check_integer : Fun K "check_integer" "check_integer" s_check_integer a_check_integer d_check_integer
  b_check_integer : Binds K d_check_integer P_check_integer []
  g_check_integer : mg "check_integer" = some (.ref a_check_integer)
  a_check_from : Addr
  d_check_from : FuncData
  F_check_from : Fun K "check_from" "check_from" s_check_from a_check_from d_check_from
  b_check_from : Binds K d_check_from P_check_from []
  g_check_from : mg "check_from" = some (.ref a_check_from)
  a_check_place : Addr
  d_check_place : FuncData
  F_check_place : Fun K "check_place" "check_place" s_check_place a_check_place d_check_place
  b_check_place : Binds K d_check_place P_check_place []
  g_check_place : mg "check_place" = some (.ref a_check_place)
  a_bezout : Addr
  d_bezout : FuncData
  F_bezout : Fun K "bezout" "bezout" s_bezout a_bezout d_bezout
  b_bezout : Binds K d_bezout P_bezout []
  g_bezout : mg "bezout" = some (.ref a_bezout)
  a_cheapest_frame : Addr
  d_cheapest_frame : FuncData
  F_cheapest_frame : Fun K "cheapest_frame" "cheapest_frame" s_cheapest_frame a_cheapest_frame d_cheapest_frame
  b_cheapest_frame : Binds K d_cheapest_frame P_cheapest_frame []
  g_cheapest_frame : mg "cheapest_frame" = some (.ref a_cheapest_frame)
  a_is_run : Addr
  d_is_run : FuncData
  F_is_run : Fun K "is_run" "is_run" s_is_run a_is_run d_is_run
  b_is_run : Binds K d_is_run P_is_run []
  g_is_run : mg "is_run" = some (.ref a_is_run)
  a_joined_runs : Addr
  d_joined_runs : FuncData
  F_joined_runs : Fun K "joined_runs" "joined_runs" s_joined_runs a_joined_runs d_joined_runs
  b_joined_runs : Binds K d_joined_runs P_joined_runs []
  g_joined_runs : mg "joined_runs" = some (.ref a_joined_runs)
  a_told_runs : Addr
  d_told_runs : FuncData
  F_told_runs : Fun K "told_runs" "told_runs" s_told_runs a_told_runs d_told_runs
  b_told_runs : Binds K d_told_runs P_told_runs []
  g_told_runs : mg "told_runs" = some (.ref a_told_runs)
  a_steps : Addr
  d_steps : FuncData
  F_steps : Fun K "steps" "steps" s_steps a_steps d_steps
  b_steps : Binds K d_steps P_steps []
  g_steps : mg "steps" = some (.ref a_steps)
  a_l_begin : Addr
  d_l_begin : FuncData
  F_l_begin : Fun K "_law_begin" "_law_begin" s_l_begin a_l_begin d_l_begin
  b_l_begin : Binds K d_l_begin P_l_begin []
  g_l_begin : mg "_law_begin" = some (.ref a_l_begin)
  a_l_draw : Addr
  d_l_draw : FuncData
  F_l_draw : Fun K "_law_draw" "_law_draw" s_l_draw a_l_draw d_l_draw
  b_l_draw : Binds K d_l_draw P_l_draw []
  g_l_draw : mg "_law_draw" = some (.ref a_l_draw)
  a_l_pick : Addr
  d_l_pick : FuncData
  F_l_pick : Fun K "_law_pick" "_law_pick" s_l_pick a_l_pick d_l_pick
  b_l_pick : Binds K d_l_pick P_l_pick []
  g_l_pick : mg "_law_pick" = some (.ref a_l_pick)
  a_l_number : Addr
  d_l_number : FuncData
  F_l_number : Fun K "_law_number" "_law_number" s_l_number a_l_number d_l_number
  b_l_number : Binds K d_l_number P_l_number []
  g_l_number : mg "_law_number" = some (.ref a_l_number)
  a_l_great : Addr
  d_l_great : FuncData
  F_l_great : Fun K "_law_great" "_law_great" s_l_great a_l_great d_l_great
  b_l_great : Binds K d_l_great P_l_great []
  g_l_great : mg "_law_great" = some (.ref a_l_great)
  a_l_signed : Addr
  d_l_signed : FuncData
  F_l_signed : Fun K "_law_signed" "_law_signed" s_l_signed a_l_signed d_l_signed
  b_l_signed : Binds K d_l_signed P_l_signed []
  g_l_signed : mg "_law_signed" = some (.ref a_l_signed)
  a_l_step : Addr
  d_l_step : FuncData
  F_l_step : Fun K "_law_step" "_law_step" s_l_step a_l_step d_l_step
  b_l_step : Binds K d_l_step P_l_step []
  g_l_step : mg "_law_step" = some (.ref a_l_step)
  a_l_led : Addr
  d_l_led : FuncData
  F_l_led : Fun K "_law_led" "_law_led" s_l_led a_l_led d_l_led
  b_l_led : Binds K d_l_led P_l_led []
  g_l_led : mg "_law_led" = some (.ref a_l_led)
  a_l_behind : Addr
  d_l_behind : FuncData
  F_l_behind : Fun K "_law_behind" "_law_behind" s_l_behind a_l_behind d_l_behind
  b_l_behind : Binds K d_l_behind P_l_behind []
  g_l_behind : mg "_law_behind" = some (.ref a_l_behind)
  a_l_back : Addr
  d_l_back : FuncData
  F_l_back : Fun K "_law_back" "_law_back" s_l_back a_l_back d_l_back
  b_l_back : Binds K d_l_back P_l_back []
  g_l_back : mg "_law_back" = some (.ref a_l_back)
  a_l_place : Addr
  d_l_place : FuncData
  F_l_place : Fun K "_law_place" "_law_place" s_l_place a_l_place d_l_place
  b_l_place : Binds K d_l_place P_l_place []
  g_l_place : mg "_law_place" = some (.ref a_l_place)
  a_l_counts : Addr
  d_l_counts : FuncData
  F_l_counts : Fun K "_law_counts" "_law_counts" s_l_counts a_l_counts d_l_counts
  b_l_counts : Binds K d_l_counts P_l_counts []
  g_l_counts : mg "_law_counts" = some (.ref a_l_counts)
  a_l_made : Addr
  d_l_made : FuncData
  F_l_made : Fun K "_law_made" "_law_made" s_l_made a_l_made d_l_made
  b_l_made : Binds K d_l_made P_l_made []
  g_l_made : mg "_law_made" = some (.ref a_l_made)
  a_l_spot : Addr
  d_l_spot : FuncData
  F_l_spot : Fun K "_law_spot" "_law_spot" s_l_spot a_l_spot d_l_spot
  b_l_spot : Binds K d_l_spot P_l_spot []
  g_l_spot : mg "_law_spot" = some (.ref a_l_spot)
  a_l_mirrors_right : Addr
  d_l_mirrors_right : FuncData
  F_l_mirrors_right : Fun K "_law_mirrors_right" "_law_mirrors_right" s_l_mirrors_right a_l_mirrors_right d_l_mirrors_right
  b_l_mirrors_right : Binds K d_l_mirrors_right P_l_mirrors_right []
  g_l_mirrors_right : mg "_law_mirrors_right" = some (.ref a_l_mirrors_right)
  a_l_walks_right : Addr
  d_l_walks_right : FuncData
  F_l_walks_right : Fun K "_law_walks_right" "_law_walks_right" s_l_walks_right a_l_walks_right d_l_walks_right
  b_l_walks_right : Binds K d_l_walks_right P_l_walks_right []
  g_l_walks_right : mg "_law_walks_right" = some (.ref a_l_walks_right)
  a_law : Addr
  d_law : FuncData
  F_law : Fun K "law" "law" s_law a_law d_law
  b_law : Binds K d_law P_law []
  g_law : mg "law" = some (.ref a_law)
  C_BadNumber : Addr
  g_C_BadNumber : mg "BadNumber" = some (.ref C_BadNumber)
  a_BadNumber_init : Addr
  d_BadNumber_init : FuncData
  F_BadNumber_init : Fun K "__init__" "BadNumber.__init__" s_BadNumber_init a_BadNumber_init d_BadNumber_init
  b_BadNumber_init : Binds K d_BadNumber_init P_BadNumber_init []
  X_BadNumber : OexC K C_BadNumber
  ei_BadNumber : PySem.W.findIn K (.ref C_BadNumber) "__init__" = some (some (.ref a_BadNumber_init))
  et_BadNumber : PySem.W.typeIn K (.ref a_BadNumber_init) = some (.type "function")
  na_BadNumber_value : PySem.W.findIn K (.ref C_BadNumber) "value" = some none
  C_BadPlace : Addr
  g_C_BadPlace : mg "BadPlace" = some (.ref C_BadPlace)
  a_BadPlace_init : Addr
  d_BadPlace_init : FuncData
  F_BadPlace_init : Fun K "__init__" "BadPlace.__init__" s_BadPlace_init a_BadPlace_init d_BadPlace_init
  b_BadPlace_init : Binds K d_BadPlace_init P_BadPlace_init []
  X_BadPlace : OexC K C_BadPlace
  ei_BadPlace : PySem.W.findIn K (.ref C_BadPlace) "__init__" = some (some (.ref a_BadPlace_init))
  et_BadPlace : PySem.W.typeIn K (.ref a_BadPlace_init) = some (.type "function")
  na_BadPlace_value : PySem.W.findIn K (.ref C_BadPlace) "value" = some none
  C_BadWord : Addr
  g_C_BadWord : mg "BadWord" = some (.ref C_BadWord)
  a_BadWord_init : Addr
  d_BadWord_init : FuncData
  F_BadWord_init : Fun K "__init__" "BadWord.__init__" s_BadWord_init a_BadWord_init d_BadWord_init
  b_BadWord_init : Binds K d_BadWord_init P_BadWord_init []
  X_BadWord : OexC K C_BadWord
  ei_BadWord : PySem.W.findIn K (.ref C_BadWord) "__init__" = some (some (.ref a_BadWord_init))
  et_BadWord : PySem.W.typeIn K (.ref a_BadWord_init) = some (.type "function")
  na_BadWord_value : PySem.W.findIn K (.ref C_BadWord) "value" = some none
  C_Place : Addr
  g_C_Place : mg "Place" = some (.ref C_Place)
  cl_Place : Cls K C_Place
  ca_Place : PySem.W.findIn K (.ref C_Place) "__class__" = some (some (.builtin "object.__class__"))
  cm_Place : PySem.W.mroIn K C_Place (.type "object") = some true
  na_Place_x : NoAttr K C_Place "x"
  na_Place_y : NoAttr K C_Place "y"
  na_Place_area : NoAttr K C_Place "area"
  a_Place_init : Addr
  d_Place_init : FuncData
  F_Place_init : Fun K "__init__" "Place.__init__" s_Place_init a_Place_init d_Place_init
  b_Place_init : Binds K d_Place_init P_Place_init []
  M_Place : Mk K C_Place a_Place_init
  C_Bargain : Addr
  g_C_Bargain : mg "Bargain" = some (.ref C_Bargain)
  cl_Bargain : Cls K C_Bargain
  na_Bargain_across : NoAttr K C_Bargain "across"
  na_Bargain_up : NoAttr K C_Bargain "up"
  na_Bargain_product : NoAttr K C_Bargain "product"
  na_Bargain_wide : NoAttr K C_Bargain "wide"
  na_Bargain_high : NoAttr K C_Bargain "high"
  na_Bargain_narrowest : NoAttr K C_Bargain "narrowest"
  na_Bargain_widest : NoAttr K C_Bargain "widest"
  a_Bargain_init : Addr
  d_Bargain_init : FuncData
  F_Bargain_init : Fun K "__init__" "Bargain.__init__" s_Bargain_init a_Bargain_init d_Bargain_init
  b_Bargain_init : Binds K d_Bargain_init P_Bargain_init []
  M_Bargain : Mk K C_Bargain a_Bargain_init
  a_Bargain_best : Addr
  d_Bargain_best : FuncData
  F_Bargain_best : Fun K "best" "Bargain.best" s_Bargain_best a_Bargain_best d_Bargain_best
  b_Bargain_best : Binds K d_Bargain_best P_Bargain_best []
  M_Bargain_best : Meth K C_Bargain "best" a_Bargain_best
  a_Bargain_frame_by_widths : Addr
  d_Bargain_frame_by_widths : FuncData
  F_Bargain_frame_by_widths : Fun K "frame_by_widths" "Bargain.frame_by_widths" s_Bargain_frame_by_widths a_Bargain_frame_by_widths d_Bargain_frame_by_widths
  b_Bargain_frame_by_widths : Binds K d_Bargain_frame_by_widths P_Bargain_frame_by_widths []
  M_Bargain_frame_by_widths : Meth K C_Bargain "frame_by_widths" a_Bargain_frame_by_widths
  a_Bargain_may_be_cheaper : Addr
  d_Bargain_may_be_cheaper : FuncData
  F_Bargain_may_be_cheaper : Fun K "may_be_cheaper" "Bargain.may_be_cheaper" s_Bargain_may_be_cheaper a_Bargain_may_be_cheaper d_Bargain_may_be_cheaper
  b_Bargain_may_be_cheaper : Binds K d_Bargain_may_be_cheaper P_Bargain_may_be_cheaper []
  M_Bargain_may_be_cheaper : Meth K C_Bargain "may_be_cheaper" a_Bargain_may_be_cheaper
  a_Bargain_frame_by_costs : Addr
  d_Bargain_frame_by_costs : FuncData
  F_Bargain_frame_by_costs : Fun K "frame_by_costs" "Bargain.frame_by_costs" s_Bargain_frame_by_costs a_Bargain_frame_by_costs d_Bargain_frame_by_costs
  b_Bargain_frame_by_costs : Binds K d_Bargain_frame_by_costs P_Bargain_frame_by_costs []
  M_Bargain_frame_by_costs : Meth K C_Bargain "frame_by_costs" a_Bargain_frame_by_costs
  a_Bargain_least_cost : Addr
  d_Bargain_least_cost : FuncData
  F_Bargain_least_cost : Fun K "least_cost" "Bargain.least_cost" s_Bargain_least_cost a_Bargain_least_cost d_Bargain_least_cost
  b_Bargain_least_cost : Binds K d_Bargain_least_cost P_Bargain_least_cost []
  M_Bargain_least_cost : Meth K C_Bargain "least_cost" a_Bargain_least_cost
  a_Bargain_frame_of_cost : Addr
  d_Bargain_frame_of_cost : FuncData
  F_Bargain_frame_of_cost : Fun K "frame_of_cost" "Bargain.frame_of_cost" s_Bargain_frame_of_cost a_Bargain_frame_of_cost d_Bargain_frame_of_cost
  b_Bargain_frame_of_cost : Binds K d_Bargain_frame_of_cost P_Bargain_frame_of_cost []
  M_Bargain_frame_of_cost : Meth K C_Bargain "frame_of_cost" a_Bargain_frame_of_cost
  C_Ready : Addr
  g_C_Ready : mg "Ready" = some (.ref C_Ready)
  cl_Ready : Cls K C_Ready
  ca_Ready : PySem.W.findIn K (.ref C_Ready) "__class__" = some (some (.builtin "object.__class__"))
  cm_Ready : PySem.W.mroIn K C_Ready (.type "object") = some true
  na_Ready_runs : NoAttr K C_Ready "runs"
  C_Walk : Addr
  g_C_Walk : mg "Walk" = some (.ref C_Walk)
  cl_Walk : Cls K C_Walk
  na_Walk_runs : NoAttr K C_Walk "runs"
  a_Walk_init : Addr
  d_Walk_init : FuncData
  F_Walk_init : Fun K "__init__" "Walk.__init__" s_Walk_init a_Walk_init d_Walk_init
  b_Walk_init : Binds K d_Walk_init P_Walk_init []
  M_Walk : Mk K C_Walk a_Walk_init
  C_Prices : Addr
  g_C_Prices : mg "Prices" = some (.ref C_Prices)
  cl_Prices : Cls K C_Prices
  na_Prices_east : NoAttr K C_Prices "east"
  na_Prices_north : NoAttr K C_Prices "north"
  na_Prices_west : NoAttr K C_Prices "west"
  na_Prices_south : NoAttr K C_Prices "south"
  a_Prices_init : Addr
  d_Prices_init : FuncData
  F_Prices_init : Fun K "__init__" "Prices.__init__" s_Prices_init a_Prices_init d_Prices_init
  b_Prices_init : Binds K d_Prices_init P_Prices_init []
  M_Prices : Mk K C_Prices a_Prices_init
  a_Prices_price_of : Addr
  d_Prices_price_of : FuncData
  F_Prices_price_of : Fun K "price_of" "Prices.price_of" s_Prices_price_of a_Prices_price_of d_Prices_price_of
  b_Prices_price_of : Binds K d_Prices_price_of P_Prices_price_of []
  M_Prices_price_of : Meth K C_Prices "price_of" a_Prices_price_of
  a_Prices_least_price : Addr
  d_Prices_least_price : FuncData
  F_Prices_least_price : Fun K "least_price" "Prices.least_price" s_Prices_least_price a_Prices_least_price d_Prices_least_price
  b_Prices_least_price : Binds K d_Prices_least_price P_Prices_least_price []
  M_Prices_least_price : Meth K C_Prices "least_price" a_Prices_least_price
  a_Prices_frame : Addr
  d_Prices_frame : FuncData
  F_Prices_frame : Fun K "frame" "Prices.frame" s_Prices_frame a_Prices_frame d_Prices_frame
  b_Prices_frame : Binds K d_Prices_frame P_Prices_frame []
  M_Prices_frame : Meth K C_Prices "frame" a_Prices_frame
  cn : PySem.W.specialIn K (.builtin "object.__class__") "__get__" = some (some (.builtin "getset_descriptor.__get__"))
  ct : PySem.W.takesIn K (.builtin "object.__class__") = some true
  io_Place_int : PySem.W.kitOne K (.ref C_Place) (.type "int") = some false
  io_Place_bool : PySem.W.kitOne K (.ref C_Place) (.type "bool") = some false
  is_NoneType_Place : PySem.W.kitOne K (.type "NoneType") (.ref C_Place) = some false
  is_bool_Place : PySem.W.kitOne K (.type "bool") (.ref C_Place) = some false
  is_int_Place : PySem.W.kitOne K (.type "int") (.ref C_Place) = some false
  is_str_Place : PySem.W.kitOne K (.type "str") (.ref C_Place) = some false
  is_list_Place : PySem.W.kitOne K (.type "list") (.ref C_Place) = some false
  is_tuple_Place : PySem.W.kitOne K (.type "tuple") (.ref C_Place) = some false
  is_dict_Place : PySem.W.kitOne K (.type "dict") (.ref C_Place) = some false
  is_list_Ready : PySem.W.kitOne K (.type "list") (.ref C_Ready) = some false
  n_abs : mg "abs" = none
  n_all : mg "all" = none
  n_bool : mg "bool" = none
  n_int : mg "int" = none
  n_isinstance : mg "isinstance" = none
  n_len : mg "len" = none
  n_list : mg "list" = none
  n_max : mg "max" = none
  n_min : mg "min" = none
  n_range : mg "range" = none
  n_str : mg "str" = none
  n_sum : mg "sum" = none
  n_tuple : mg "tuple" = none
  n_zip : mg "zip" = none
  tk_MOST_WIDTHS : Tok
  gc_MOST_WIDTHS : mg "MOST_WIDTHS" = some (.int 64 tk_MOST_WIDTHS)
  tk_MOST_RUNS : Tok
  gc_MOST_RUNS : mg "MOST_RUNS" = some (.int 10000 tk_MOST_RUNS)
  tk_HIGHEST_PRICE : Tok
  gc_HIGHEST_PRICE : mg "HIGHEST_PRICE" = some (.int 1000 tk_HIGHEST_PRICE)
  tk_LETTERS : Tok
  gc_LETTERS : mg "LETTERS" = some (.str "enws" tk_LETTERS)
  mi_gcd : mg "gcd" = some (.builtin "math.gcd")
  mi_isqrt : mg "isqrt" = some (.builtin "math.isqrt")
theorem tx_mk {K : PySem.W.Frag} {h : Heap} {mg : Str → Option Value} {fa : Addr} {f_fewest_steps : Addr} {od_fewest_steps an_fewest_steps : Option Addr} {sl_fewest_steps : Array (Option Value)} {oc_fewest_steps kV_fewest_steps dc_fewest_steps pm_fewest_steps cd_fewest_steps ct_fewest_steps : Value}
    {f_quotient_up : Addr} {od_quotient_up an_quotient_up : Option Addr} {sl_quotient_up : Array (Option Value)} {oc_quotient_up kV_quotient_up dc_quotient_up pm_quotient_up cd_quotient_up ct_quotient_up : Value}
    {f_half_outline : Addr} {od_half_outline an_half_outline : Option Addr} {sl_half_outline : Array (Option Value)} {oc_half_outline kV_half_outline dc_half_outline pm_half_outline cd_half_outline ct_half_outline : Value}
    {f_BadNumber_init : Addr} {od_BadNumber_init an_BadNumber_init : Option Addr} {sl_BadNumber_init : Array (Option Value)} {oc_BadNumber_init kV_BadNumber_init dc_BadNumber_init pm_BadNumber_init cd_BadNumber_init ct_BadNumber_init : Value}
    {f_BadPlace_init : Addr} {od_BadPlace_init an_BadPlace_init : Option Addr} {sl_BadPlace_init : Array (Option Value)} {oc_BadPlace_init kV_BadPlace_init dc_BadPlace_init pm_BadPlace_init cd_BadPlace_init ct_BadPlace_init : Value}
    {f_BadWord_init : Addr} {od_BadWord_init an_BadWord_init : Option Addr} {sl_BadWord_init : Array (Option Value)} {oc_BadWord_init kV_BadWord_init dc_BadWord_init pm_BadWord_init cd_BadWord_init ct_BadWord_init : Value}
    {f_is_integer : Addr} {od_is_integer an_is_integer : Option Addr} {sl_is_integer : Array (Option Value)} {oc_is_integer kV_is_integer dc_is_integer pm_is_integer cd_is_integer ct_is_integer : Value}
    {f_is_whole : Addr} {od_is_whole an_is_whole : Option Addr} {sl_is_whole : Array (Option Value)} {oc_is_whole kV_is_whole dc_is_whole pm_is_whole cd_is_whole ct_is_whole : Value}
    {f_check_integer : Addr} {od_check_integer an_check_integer : Option Addr} {sl_check_integer : Array (Option Value)} {oc_check_integer kV_check_integer dc_check_integer pm_check_integer cd_check_integer ct_check_integer : Value}
    {f_check_from : Addr} {od_check_from an_check_from : Option Addr} {sl_check_from : Array (Option Value)} {oc_check_from kV_check_from dc_check_from pm_check_from cd_check_from ct_check_from : Value}
    {f_Place_init : Addr} {od_Place_init an_Place_init : Option Addr} {sl_Place_init : Array (Option Value)} {oc_Place_init kV_Place_init dc_Place_init pm_Place_init cd_Place_init ct_Place_init : Value}
    {f_check_place : Addr} {od_check_place an_check_place : Option Addr} {sl_check_place : Array (Option Value)} {oc_check_place kV_check_place dc_check_place pm_check_place cd_check_place ct_check_place : Value}
    {f_bezout : Addr} {od_bezout an_bezout : Option Addr} {sl_bezout : Array (Option Value)} {oc_bezout kV_bezout dc_bezout pm_bezout cd_bezout ct_bezout : Value}
    {f_cheapest_frame : Addr} {od_cheapest_frame an_cheapest_frame : Option Addr} {sl_cheapest_frame : Array (Option Value)} {oc_cheapest_frame kV_cheapest_frame dc_cheapest_frame pm_cheapest_frame cd_cheapest_frame ct_cheapest_frame : Value}
    {f_Bargain_init : Addr} {od_Bargain_init an_Bargain_init : Option Addr} {sl_Bargain_init : Array (Option Value)} {oc_Bargain_init kV_Bargain_init dc_Bargain_init pm_Bargain_init cd_Bargain_init ct_Bargain_init : Value}
    {f_Bargain_best : Addr} {od_Bargain_best an_Bargain_best : Option Addr} {sl_Bargain_best : Array (Option Value)} {oc_Bargain_best kV_Bargain_best dc_Bargain_best pm_Bargain_best cd_Bargain_best ct_Bargain_best : Value}
    {f_Bargain_frame_by_widths : Addr} {od_Bargain_frame_by_widths an_Bargain_frame_by_widths : Option Addr} {sl_Bargain_frame_by_widths : Array (Option Value)} {oc_Bargain_frame_by_widths kV_Bargain_frame_by_widths dc_Bargain_frame_by_widths pm_Bargain_frame_by_widths cd_Bargain_frame_by_widths ct_Bargain_frame_by_widths : Value}
    {f_Bargain_may_be_cheaper : Addr} {od_Bargain_may_be_cheaper an_Bargain_may_be_cheaper : Option Addr} {sl_Bargain_may_be_cheaper : Array (Option Value)} {oc_Bargain_may_be_cheaper kV_Bargain_may_be_cheaper dc_Bargain_may_be_cheaper pm_Bargain_may_be_cheaper cd_Bargain_may_be_cheaper ct_Bargain_may_be_cheaper : Value}
    {f_Bargain_frame_by_costs : Addr} {od_Bargain_frame_by_costs an_Bargain_frame_by_costs : Option Addr} {sl_Bargain_frame_by_costs : Array (Option Value)} {oc_Bargain_frame_by_costs kV_Bargain_frame_by_costs dc_Bargain_frame_by_costs pm_Bargain_frame_by_costs cd_Bargain_frame_by_costs ct_Bargain_frame_by_costs : Value}
    {f_Bargain_least_cost : Addr} {od_Bargain_least_cost an_Bargain_least_cost : Option Addr} {sl_Bargain_least_cost : Array (Option Value)} {oc_Bargain_least_cost kV_Bargain_least_cost dc_Bargain_least_cost pm_Bargain_least_cost cd_Bargain_least_cost ct_Bargain_least_cost : Value}
    {f_Bargain_frame_of_cost : Addr} {od_Bargain_frame_of_cost an_Bargain_frame_of_cost : Option Addr} {sl_Bargain_frame_of_cost : Array (Option Value)} {oc_Bargain_frame_of_cost kV_Bargain_frame_of_cost dc_Bargain_frame_of_cost pm_Bargain_frame_of_cost cd_Bargain_frame_of_cost ct_Bargain_frame_of_cost : Value}
    {f_is_run : Addr} {od_is_run an_is_run : Option Addr} {sl_is_run : Array (Option Value)} {oc_is_run kV_is_run dc_is_run pm_is_run cd_is_run ct_is_run : Value}
    {f_joined_runs : Addr} {od_joined_runs an_joined_runs : Option Addr} {sl_joined_runs : Array (Option Value)} {oc_joined_runs kV_joined_runs dc_joined_runs pm_joined_runs cd_joined_runs ct_joined_runs : Value}
    {f_told_runs : Addr} {od_told_runs an_told_runs : Option Addr} {sl_told_runs : Array (Option Value)} {oc_told_runs kV_told_runs dc_told_runs pm_told_runs cd_told_runs ct_told_runs : Value}
    {f_Walk_init : Addr} {od_Walk_init an_Walk_init : Option Addr} {sl_Walk_init : Array (Option Value)} {oc_Walk_init kV_Walk_init dc_Walk_init pm_Walk_init cd_Walk_init ct_Walk_init : Value}
    {f_Prices_init : Addr} {od_Prices_init an_Prices_init : Option Addr} {sl_Prices_init : Array (Option Value)} {oc_Prices_init kV_Prices_init dc_Prices_init pm_Prices_init cd_Prices_init ct_Prices_init : Value}
    {f_Prices_price_of : Addr} {od_Prices_price_of an_Prices_price_of : Option Addr} {sl_Prices_price_of : Array (Option Value)} {oc_Prices_price_of kV_Prices_price_of dc_Prices_price_of pm_Prices_price_of cd_Prices_price_of ct_Prices_price_of : Value}
    {f_Prices_least_price : Addr} {od_Prices_least_price an_Prices_least_price : Option Addr} {sl_Prices_least_price : Array (Option Value)} {oc_Prices_least_price kV_Prices_least_price dc_Prices_least_price pm_Prices_least_price cd_Prices_least_price ct_Prices_least_price : Value}
    {f_Prices_frame : Addr} {od_Prices_frame an_Prices_frame : Option Addr} {sl_Prices_frame : Array (Option Value)} {oc_Prices_frame kV_Prices_frame dc_Prices_frame pm_Prices_frame cd_Prices_frame ct_Prices_frame : Value}
    {f_steps : Addr} {od_steps an_steps : Option Addr} {sl_steps : Array (Option Value)} {oc_steps kV_steps dc_steps pm_steps cd_steps ct_steps : Value}
    {f_l_begin : Addr} {od_l_begin an_l_begin : Option Addr} {sl_l_begin : Array (Option Value)} {oc_l_begin kV_l_begin dc_l_begin pm_l_begin cd_l_begin ct_l_begin : Value}
    {f_l_draw : Addr} {od_l_draw an_l_draw : Option Addr} {sl_l_draw : Array (Option Value)} {oc_l_draw kV_l_draw dc_l_draw pm_l_draw cd_l_draw ct_l_draw : Value}
    {f_l_pick : Addr} {od_l_pick an_l_pick : Option Addr} {sl_l_pick : Array (Option Value)} {oc_l_pick kV_l_pick dc_l_pick pm_l_pick cd_l_pick ct_l_pick : Value}
    {f_l_number : Addr} {od_l_number an_l_number : Option Addr} {sl_l_number : Array (Option Value)} {oc_l_number kV_l_number dc_l_number pm_l_number cd_l_number ct_l_number : Value}
    {f_l_great : Addr} {od_l_great an_l_great : Option Addr} {sl_l_great : Array (Option Value)} {oc_l_great kV_l_great dc_l_great pm_l_great cd_l_great ct_l_great : Value}
    {f_l_signed : Addr} {od_l_signed an_l_signed : Option Addr} {sl_l_signed : Array (Option Value)} {oc_l_signed kV_l_signed dc_l_signed pm_l_signed cd_l_signed ct_l_signed : Value}
    {f_l_step : Addr} {od_l_step an_l_step : Option Addr} {sl_l_step : Array (Option Value)} {oc_l_step kV_l_step dc_l_step pm_l_step cd_l_step ct_l_step : Value}
    {f_l_led : Addr} {od_l_led an_l_led : Option Addr} {sl_l_led : Array (Option Value)} {oc_l_led kV_l_led dc_l_led pm_l_led cd_l_led ct_l_led : Value}
    {f_l_behind : Addr} {od_l_behind an_l_behind : Option Addr} {sl_l_behind : Array (Option Value)} {oc_l_behind kV_l_behind dc_l_behind pm_l_behind cd_l_behind ct_l_behind : Value}
    {f_l_back : Addr} {od_l_back an_l_back : Option Addr} {sl_l_back : Array (Option Value)} {oc_l_back kV_l_back dc_l_back pm_l_back cd_l_back ct_l_back : Value}
    {f_l_place : Addr} {od_l_place an_l_place : Option Addr} {sl_l_place : Array (Option Value)} {oc_l_place kV_l_place dc_l_place pm_l_place cd_l_place ct_l_place : Value}
    {f_l_counts : Addr} {od_l_counts an_l_counts : Option Addr} {sl_l_counts : Array (Option Value)} {oc_l_counts kV_l_counts dc_l_counts pm_l_counts cd_l_counts ct_l_counts : Value}
    {f_l_made : Addr} {od_l_made an_l_made : Option Addr} {sl_l_made : Array (Option Value)} {oc_l_made kV_l_made dc_l_made pm_l_made cd_l_made ct_l_made : Value}
    {f_l_spot : Addr} {od_l_spot an_l_spot : Option Addr} {sl_l_spot : Array (Option Value)} {oc_l_spot kV_l_spot dc_l_spot pm_l_spot cd_l_spot ct_l_spot : Value}
    {f_l_mirrors_right : Addr} {od_l_mirrors_right an_l_mirrors_right : Option Addr} {sl_l_mirrors_right : Array (Option Value)} {oc_l_mirrors_right kV_l_mirrors_right dc_l_mirrors_right pm_l_mirrors_right cd_l_mirrors_right ct_l_mirrors_right : Value}
    {f_l_walks_right : Addr} {od_l_walks_right an_l_walks_right : Option Addr} {sl_l_walks_right : Array (Option Value)} {oc_l_walks_right kV_l_walks_right dc_l_walks_right pm_l_walks_right cd_l_walks_right ct_l_walks_right : Value}
    {f_law : Addr} {od_law an_law : Option Addr} {sl_law : Array (Option Value)} {oc_law kV_law dc_law pm_law cd_law ct_law : Value}
    {C_WalkError : Addr}
    {C_BadNumber : Addr}
    {C_BadPlace : Addr}
    {C_BadWord : Addr}
    {C_Place : Addr}
    {C_Bargain : Addr}
    {C_Ready : Addr}
    {C_Walk : Addr}
    {C_Prices : Addr}
    {nm_BadNumber qn_BadNumber : Str} {NN_BadNumber : Addr} {bs_BadNumber sb_BadNumber : List Value} {sn_BadNumber : List Str} {ab_BadNumber : Bool} {co_BadNumber : Option Bool} {dd_BadNumber : Option Addr} {m0_BadNumber m1_BadNumber m2_BadNumber m3_BadNumber m5_BadNumber : Option Value}
    {nm_BadPlace qn_BadPlace : Str} {NN_BadPlace : Addr} {bs_BadPlace sb_BadPlace : List Value} {sn_BadPlace : List Str} {ab_BadPlace : Bool} {co_BadPlace : Option Bool} {dd_BadPlace : Option Addr} {m0_BadPlace m1_BadPlace m2_BadPlace m3_BadPlace m5_BadPlace : Option Value}
    {nm_BadWord qn_BadWord : Str} {NN_BadWord : Addr} {bs_BadWord sb_BadWord : List Value} {sn_BadWord : List Str} {ab_BadWord : Bool} {co_BadWord : Option Bool} {dd_BadWord : Option Addr} {m0_BadWord m1_BadWord m2_BadWord m3_BadWord m5_BadWord : Option Value}
    {tk_MOST_WIDTHS : Tok}
    {tk_MOST_RUNS : Tok}
    {tk_HIGHEST_PRICE : Tok}
    {tk_LETTERS : Tok}
    (X : K.In h) (G : h.Ns mainGlobals mg) (hfa : mg "law" = some (.ref fa))
    (g_fewest_steps : PySem.W.nsIn K mainGlobals "fewest_steps" = some (some (.ref f_fewest_steps)))
    (l_fewest_steps : K.lookup f_fewest_steps = some ⟨oc_fewest_steps, od_fewest_steps, .func (PySem.W.fnOf "fewest_steps" "fewest_steps" (defArgs s_fewest_steps) (defBody s_fewest_steps) (defScope s_fewest_steps) .none kV_fewest_steps dc_fewest_steps pm_fewest_steps an_fewest_steps cd_fewest_steps ct_fewest_steps), sl_fewest_steps⟩)
    (c_fewest_steps : PySem.W.codeIn K cd_fewest_steps "fewest_steps" = true)
    (k_fewest_steps : PySem.W.keepIn K (.ref f_fewest_steps) = true)
    (g_quotient_up : PySem.W.nsIn K mainGlobals "quotient_up" = some (some (.ref f_quotient_up)))
    (l_quotient_up : K.lookup f_quotient_up = some ⟨oc_quotient_up, od_quotient_up, .func (PySem.W.fnOf "quotient_up" "quotient_up" (defArgs s_quotient_up) (defBody s_quotient_up) (defScope s_quotient_up) .none kV_quotient_up dc_quotient_up pm_quotient_up an_quotient_up cd_quotient_up ct_quotient_up), sl_quotient_up⟩)
    (c_quotient_up : PySem.W.codeIn K cd_quotient_up "quotient_up" = true)
    (k_quotient_up : PySem.W.keepIn K (.ref f_quotient_up) = true)
    (g_half_outline : PySem.W.nsIn K mainGlobals "half_outline" = some (some (.ref f_half_outline)))
    (l_half_outline : K.lookup f_half_outline = some ⟨oc_half_outline, od_half_outline, .func (PySem.W.fnOf "half_outline" "half_outline" (defArgs s_half_outline) (defBody s_half_outline) (defScope s_half_outline) .none kV_half_outline dc_half_outline pm_half_outline an_half_outline cd_half_outline ct_half_outline), sl_half_outline⟩)
    (c_half_outline : PySem.W.codeIn K cd_half_outline "half_outline" = true)
    (k_half_outline : PySem.W.keepIn K (.ref f_half_outline) = true)
    (g_is_integer : PySem.W.nsIn K mainGlobals "is_integer" = some (some (.ref f_is_integer)))
    (l_is_integer : K.lookup f_is_integer = some ⟨oc_is_integer, od_is_integer, .func (PySem.W.fnOf "is_integer" "is_integer" (defArgs s_is_integer) (defBody s_is_integer) (defScope s_is_integer) .none kV_is_integer dc_is_integer pm_is_integer an_is_integer cd_is_integer ct_is_integer), sl_is_integer⟩)
    (c_is_integer : PySem.W.codeIn K cd_is_integer "is_integer" = true)
    (k_is_integer : PySem.W.keepIn K (.ref f_is_integer) = true)
    (g_is_whole : PySem.W.nsIn K mainGlobals "is_whole" = some (some (.ref f_is_whole)))
    (l_is_whole : K.lookup f_is_whole = some ⟨oc_is_whole, od_is_whole, .func (PySem.W.fnOf "is_whole" "is_whole" (defArgs s_is_whole) (defBody s_is_whole) (defScope s_is_whole) .none kV_is_whole dc_is_whole pm_is_whole an_is_whole cd_is_whole ct_is_whole), sl_is_whole⟩)
    (c_is_whole : PySem.W.codeIn K cd_is_whole "is_whole" = true)
    (k_is_whole : PySem.W.keepIn K (.ref f_is_whole) = true)
    (g_check_integer : PySem.W.nsIn K mainGlobals "check_integer" = some (some (.ref f_check_integer)))
    (l_check_integer : K.lookup f_check_integer = some ⟨oc_check_integer, od_check_integer, .func (PySem.W.fnOf "check_integer" "check_integer" (defArgs s_check_integer) (defBody s_check_integer) (defScope s_check_integer) .none kV_check_integer dc_check_integer pm_check_integer an_check_integer cd_check_integer ct_check_integer), sl_check_integer⟩)
    (c_check_integer : PySem.W.codeIn K cd_check_integer "check_integer" = true)
    (k_check_integer : PySem.W.keepIn K (.ref f_check_integer) = true)
    (g_check_from : PySem.W.nsIn K mainGlobals "check_from" = some (some (.ref f_check_from)))
    (l_check_from : K.lookup f_check_from = some ⟨oc_check_from, od_check_from, .func (PySem.W.fnOf "check_from" "check_from" (defArgs s_check_from) (defBody s_check_from) (defScope s_check_from) .none kV_check_from dc_check_from pm_check_from an_check_from cd_check_from ct_check_from), sl_check_from⟩)
    (c_check_from : PySem.W.codeIn K cd_check_from "check_from" = true)
    (k_check_from : PySem.W.keepIn K (.ref f_check_from) = true)
    (g_check_place : PySem.W.nsIn K mainGlobals "check_place" = some (some (.ref f_check_place)))
    (l_check_place : K.lookup f_check_place = some ⟨oc_check_place, od_check_place, .func (PySem.W.fnOf "check_place" "check_place" (defArgs s_check_place) (defBody s_check_place) (defScope s_check_place) .none kV_check_place dc_check_place pm_check_place an_check_place cd_check_place ct_check_place), sl_check_place⟩)
    (c_check_place : PySem.W.codeIn K cd_check_place "check_place" = true)
    (k_check_place : PySem.W.keepIn K (.ref f_check_place) = true)
    (g_bezout : PySem.W.nsIn K mainGlobals "bezout" = some (some (.ref f_bezout)))
    (l_bezout : K.lookup f_bezout = some ⟨oc_bezout, od_bezout, .func (PySem.W.fnOf "bezout" "bezout" (defArgs s_bezout) (defBody s_bezout) (defScope s_bezout) .none kV_bezout dc_bezout pm_bezout an_bezout cd_bezout ct_bezout), sl_bezout⟩)
    (c_bezout : PySem.W.codeIn K cd_bezout "bezout" = true)
    (k_bezout : PySem.W.keepIn K (.ref f_bezout) = true)
    (g_cheapest_frame : PySem.W.nsIn K mainGlobals "cheapest_frame" = some (some (.ref f_cheapest_frame)))
    (l_cheapest_frame : K.lookup f_cheapest_frame = some ⟨oc_cheapest_frame, od_cheapest_frame, .func (PySem.W.fnOf "cheapest_frame" "cheapest_frame" (defArgs s_cheapest_frame) (defBody s_cheapest_frame) (defScope s_cheapest_frame) .none kV_cheapest_frame dc_cheapest_frame pm_cheapest_frame an_cheapest_frame cd_cheapest_frame ct_cheapest_frame), sl_cheapest_frame⟩)
    (c_cheapest_frame : PySem.W.codeIn K cd_cheapest_frame "cheapest_frame" = true)
    (k_cheapest_frame : PySem.W.keepIn K (.ref f_cheapest_frame) = true)
    (g_is_run : PySem.W.nsIn K mainGlobals "is_run" = some (some (.ref f_is_run)))
    (l_is_run : K.lookup f_is_run = some ⟨oc_is_run, od_is_run, .func (PySem.W.fnOf "is_run" "is_run" (defArgs s_is_run) (defBody s_is_run) (defScope s_is_run) .none kV_is_run dc_is_run pm_is_run an_is_run cd_is_run ct_is_run), sl_is_run⟩)
    (c_is_run : PySem.W.codeIn K cd_is_run "is_run" = true)
    (k_is_run : PySem.W.keepIn K (.ref f_is_run) = true)
    (g_joined_runs : PySem.W.nsIn K mainGlobals "joined_runs" = some (some (.ref f_joined_runs)))
    (l_joined_runs : K.lookup f_joined_runs = some ⟨oc_joined_runs, od_joined_runs, .func (PySem.W.fnOf "joined_runs" "joined_runs" (defArgs s_joined_runs) (defBody s_joined_runs) (defScope s_joined_runs) .none kV_joined_runs dc_joined_runs pm_joined_runs an_joined_runs cd_joined_runs ct_joined_runs), sl_joined_runs⟩)
    (c_joined_runs : PySem.W.codeIn K cd_joined_runs "joined_runs" = true)
    (k_joined_runs : PySem.W.keepIn K (.ref f_joined_runs) = true)
    (g_told_runs : PySem.W.nsIn K mainGlobals "told_runs" = some (some (.ref f_told_runs)))
    (l_told_runs : K.lookup f_told_runs = some ⟨oc_told_runs, od_told_runs, .func (PySem.W.fnOf "told_runs" "told_runs" (defArgs s_told_runs) (defBody s_told_runs) (defScope s_told_runs) .none kV_told_runs dc_told_runs pm_told_runs an_told_runs cd_told_runs ct_told_runs), sl_told_runs⟩)
    (c_told_runs : PySem.W.codeIn K cd_told_runs "told_runs" = true)
    (k_told_runs : PySem.W.keepIn K (.ref f_told_runs) = true)
    (g_steps : PySem.W.nsIn K mainGlobals "steps" = some (some (.ref f_steps)))
    (l_steps : K.lookup f_steps = some ⟨oc_steps, od_steps, .func (PySem.W.fnOf "steps" "steps" (defArgs s_steps) (defBody s_steps) (defScope s_steps) .none kV_steps dc_steps pm_steps an_steps cd_steps ct_steps), sl_steps⟩)
    (c_steps : PySem.W.codeIn K cd_steps "steps" = true)
    (k_steps : PySem.W.keepIn K (.ref f_steps) = true)
    (g_l_begin : PySem.W.nsIn K mainGlobals "_law_begin" = some (some (.ref f_l_begin)))
    (l_l_begin : K.lookup f_l_begin = some ⟨oc_l_begin, od_l_begin, .func (PySem.W.fnOf "_law_begin" "_law_begin" (defArgs s_l_begin) (defBody s_l_begin) (defScope s_l_begin) .none kV_l_begin dc_l_begin pm_l_begin an_l_begin cd_l_begin ct_l_begin), sl_l_begin⟩)
    (c_l_begin : PySem.W.codeIn K cd_l_begin "_law_begin" = true)
    (k_l_begin : PySem.W.keepIn K (.ref f_l_begin) = true)
    (g_l_draw : PySem.W.nsIn K mainGlobals "_law_draw" = some (some (.ref f_l_draw)))
    (l_l_draw : K.lookup f_l_draw = some ⟨oc_l_draw, od_l_draw, .func (PySem.W.fnOf "_law_draw" "_law_draw" (defArgs s_l_draw) (defBody s_l_draw) (defScope s_l_draw) .none kV_l_draw dc_l_draw pm_l_draw an_l_draw cd_l_draw ct_l_draw), sl_l_draw⟩)
    (c_l_draw : PySem.W.codeIn K cd_l_draw "_law_draw" = true)
    (k_l_draw : PySem.W.keepIn K (.ref f_l_draw) = true)
    (g_l_pick : PySem.W.nsIn K mainGlobals "_law_pick" = some (some (.ref f_l_pick)))
    (l_l_pick : K.lookup f_l_pick = some ⟨oc_l_pick, od_l_pick, .func (PySem.W.fnOf "_law_pick" "_law_pick" (defArgs s_l_pick) (defBody s_l_pick) (defScope s_l_pick) .none kV_l_pick dc_l_pick pm_l_pick an_l_pick cd_l_pick ct_l_pick), sl_l_pick⟩)
    (c_l_pick : PySem.W.codeIn K cd_l_pick "_law_pick" = true)
    (k_l_pick : PySem.W.keepIn K (.ref f_l_pick) = true)
    (g_l_number : PySem.W.nsIn K mainGlobals "_law_number" = some (some (.ref f_l_number)))
    (l_l_number : K.lookup f_l_number = some ⟨oc_l_number, od_l_number, .func (PySem.W.fnOf "_law_number" "_law_number" (defArgs s_l_number) (defBody s_l_number) (defScope s_l_number) .none kV_l_number dc_l_number pm_l_number an_l_number cd_l_number ct_l_number), sl_l_number⟩)
    (c_l_number : PySem.W.codeIn K cd_l_number "_law_number" = true)
    (k_l_number : PySem.W.keepIn K (.ref f_l_number) = true)
    (g_l_great : PySem.W.nsIn K mainGlobals "_law_great" = some (some (.ref f_l_great)))
    (l_l_great : K.lookup f_l_great = some ⟨oc_l_great, od_l_great, .func (PySem.W.fnOf "_law_great" "_law_great" (defArgs s_l_great) (defBody s_l_great) (defScope s_l_great) .none kV_l_great dc_l_great pm_l_great an_l_great cd_l_great ct_l_great), sl_l_great⟩)
    (c_l_great : PySem.W.codeIn K cd_l_great "_law_great" = true)
    (k_l_great : PySem.W.keepIn K (.ref f_l_great) = true)
    (g_l_signed : PySem.W.nsIn K mainGlobals "_law_signed" = some (some (.ref f_l_signed)))
    (l_l_signed : K.lookup f_l_signed = some ⟨oc_l_signed, od_l_signed, .func (PySem.W.fnOf "_law_signed" "_law_signed" (defArgs s_l_signed) (defBody s_l_signed) (defScope s_l_signed) .none kV_l_signed dc_l_signed pm_l_signed an_l_signed cd_l_signed ct_l_signed), sl_l_signed⟩)
    (c_l_signed : PySem.W.codeIn K cd_l_signed "_law_signed" = true)
    (k_l_signed : PySem.W.keepIn K (.ref f_l_signed) = true)
    (g_l_step : PySem.W.nsIn K mainGlobals "_law_step" = some (some (.ref f_l_step)))
    (l_l_step : K.lookup f_l_step = some ⟨oc_l_step, od_l_step, .func (PySem.W.fnOf "_law_step" "_law_step" (defArgs s_l_step) (defBody s_l_step) (defScope s_l_step) .none kV_l_step dc_l_step pm_l_step an_l_step cd_l_step ct_l_step), sl_l_step⟩)
    (c_l_step : PySem.W.codeIn K cd_l_step "_law_step" = true)
    (k_l_step : PySem.W.keepIn K (.ref f_l_step) = true)
    (g_l_led : PySem.W.nsIn K mainGlobals "_law_led" = some (some (.ref f_l_led)))
    (l_l_led : K.lookup f_l_led = some ⟨oc_l_led, od_l_led, .func (PySem.W.fnOf "_law_led" "_law_led" (defArgs s_l_led) (defBody s_l_led) (defScope s_l_led) .none kV_l_led dc_l_led pm_l_led an_l_led cd_l_led ct_l_led), sl_l_led⟩)
    (c_l_led : PySem.W.codeIn K cd_l_led "_law_led" = true)
    (k_l_led : PySem.W.keepIn K (.ref f_l_led) = true)
    (g_l_behind : PySem.W.nsIn K mainGlobals "_law_behind" = some (some (.ref f_l_behind)))
    (l_l_behind : K.lookup f_l_behind = some ⟨oc_l_behind, od_l_behind, .func (PySem.W.fnOf "_law_behind" "_law_behind" (defArgs s_l_behind) (defBody s_l_behind) (defScope s_l_behind) .none kV_l_behind dc_l_behind pm_l_behind an_l_behind cd_l_behind ct_l_behind), sl_l_behind⟩)
    (c_l_behind : PySem.W.codeIn K cd_l_behind "_law_behind" = true)
    (k_l_behind : PySem.W.keepIn K (.ref f_l_behind) = true)
    (g_l_back : PySem.W.nsIn K mainGlobals "_law_back" = some (some (.ref f_l_back)))
    (l_l_back : K.lookup f_l_back = some ⟨oc_l_back, od_l_back, .func (PySem.W.fnOf "_law_back" "_law_back" (defArgs s_l_back) (defBody s_l_back) (defScope s_l_back) .none kV_l_back dc_l_back pm_l_back an_l_back cd_l_back ct_l_back), sl_l_back⟩)
    (c_l_back : PySem.W.codeIn K cd_l_back "_law_back" = true)
    (k_l_back : PySem.W.keepIn K (.ref f_l_back) = true)
    (g_l_place : PySem.W.nsIn K mainGlobals "_law_place" = some (some (.ref f_l_place)))
    (l_l_place : K.lookup f_l_place = some ⟨oc_l_place, od_l_place, .func (PySem.W.fnOf "_law_place" "_law_place" (defArgs s_l_place) (defBody s_l_place) (defScope s_l_place) .none kV_l_place dc_l_place pm_l_place an_l_place cd_l_place ct_l_place), sl_l_place⟩)
    (c_l_place : PySem.W.codeIn K cd_l_place "_law_place" = true)
    (k_l_place : PySem.W.keepIn K (.ref f_l_place) = true)
    (g_l_counts : PySem.W.nsIn K mainGlobals "_law_counts" = some (some (.ref f_l_counts)))
    (l_l_counts : K.lookup f_l_counts = some ⟨oc_l_counts, od_l_counts, .func (PySem.W.fnOf "_law_counts" "_law_counts" (defArgs s_l_counts) (defBody s_l_counts) (defScope s_l_counts) .none kV_l_counts dc_l_counts pm_l_counts an_l_counts cd_l_counts ct_l_counts), sl_l_counts⟩)
    (c_l_counts : PySem.W.codeIn K cd_l_counts "_law_counts" = true)
    (k_l_counts : PySem.W.keepIn K (.ref f_l_counts) = true)
    (g_l_made : PySem.W.nsIn K mainGlobals "_law_made" = some (some (.ref f_l_made)))
    (l_l_made : K.lookup f_l_made = some ⟨oc_l_made, od_l_made, .func (PySem.W.fnOf "_law_made" "_law_made" (defArgs s_l_made) (defBody s_l_made) (defScope s_l_made) .none kV_l_made dc_l_made pm_l_made an_l_made cd_l_made ct_l_made), sl_l_made⟩)
    (c_l_made : PySem.W.codeIn K cd_l_made "_law_made" = true)
    (k_l_made : PySem.W.keepIn K (.ref f_l_made) = true)
    (g_l_spot : PySem.W.nsIn K mainGlobals "_law_spot" = some (some (.ref f_l_spot)))
    (l_l_spot : K.lookup f_l_spot = some ⟨oc_l_spot, od_l_spot, .func (PySem.W.fnOf "_law_spot" "_law_spot" (defArgs s_l_spot) (defBody s_l_spot) (defScope s_l_spot) .none kV_l_spot dc_l_spot pm_l_spot an_l_spot cd_l_spot ct_l_spot), sl_l_spot⟩)
    (c_l_spot : PySem.W.codeIn K cd_l_spot "_law_spot" = true)
    (k_l_spot : PySem.W.keepIn K (.ref f_l_spot) = true)
    (g_l_mirrors_right : PySem.W.nsIn K mainGlobals "_law_mirrors_right" = some (some (.ref f_l_mirrors_right)))
    (l_l_mirrors_right : K.lookup f_l_mirrors_right = some ⟨oc_l_mirrors_right, od_l_mirrors_right, .func (PySem.W.fnOf "_law_mirrors_right" "_law_mirrors_right" (defArgs s_l_mirrors_right) (defBody s_l_mirrors_right) (defScope s_l_mirrors_right) .none kV_l_mirrors_right dc_l_mirrors_right pm_l_mirrors_right an_l_mirrors_right cd_l_mirrors_right ct_l_mirrors_right), sl_l_mirrors_right⟩)
    (c_l_mirrors_right : PySem.W.codeIn K cd_l_mirrors_right "_law_mirrors_right" = true)
    (k_l_mirrors_right : PySem.W.keepIn K (.ref f_l_mirrors_right) = true)
    (g_l_walks_right : PySem.W.nsIn K mainGlobals "_law_walks_right" = some (some (.ref f_l_walks_right)))
    (l_l_walks_right : K.lookup f_l_walks_right = some ⟨oc_l_walks_right, od_l_walks_right, .func (PySem.W.fnOf "_law_walks_right" "_law_walks_right" (defArgs s_l_walks_right) (defBody s_l_walks_right) (defScope s_l_walks_right) .none kV_l_walks_right dc_l_walks_right pm_l_walks_right an_l_walks_right cd_l_walks_right ct_l_walks_right), sl_l_walks_right⟩)
    (c_l_walks_right : PySem.W.codeIn K cd_l_walks_right "_law_walks_right" = true)
    (k_l_walks_right : PySem.W.keepIn K (.ref f_l_walks_right) = true)
    (g_law : PySem.W.nsIn K mainGlobals "law" = some (some (.ref f_law)))
    (l_law : K.lookup f_law = some ⟨oc_law, od_law, .func (PySem.W.fnOf "law" "law" (defArgs s_law) (defBody s_law) (defScope s_law) .none kV_law dc_law pm_law an_law cd_law ct_law), sl_law⟩)
    (c_law : PySem.W.codeIn K cd_law "law" = true)
    (k_law : PySem.W.keepIn K (.ref f_law) = true)
    (g_C_BadNumber : PySem.W.nsIn K mainGlobals "BadNumber" = some (some (.ref C_BadNumber)))
    (m_BadNumber_init : PySem.W.findIn K (.ref C_BadNumber) "__init__" = some (some (.ref f_BadNumber_init)))
    (i_BadNumber_init : PySem.W.isFn K (.ref f_BadNumber_init) = true)
    (l_BadNumber_init : K.lookup f_BadNumber_init = some ⟨oc_BadNumber_init, od_BadNumber_init, .func (PySem.W.fnOf "__init__" "BadNumber.__init__" (defArgs s_BadNumber_init) (defBody s_BadNumber_init) (defScope s_BadNumber_init) .none kV_BadNumber_init dc_BadNumber_init pm_BadNumber_init an_BadNumber_init cd_BadNumber_init ct_BadNumber_init), sl_BadNumber_init⟩)
    (c_BadNumber_init : PySem.W.codeIn K cd_BadNumber_init "BadNumber.__init__" = true)
    (k_BadNumber_init : PySem.W.keepIn K (.ref f_BadNumber_init) = true)
    (sa_BadNumber : PySem.W.findIn K (.ref C_BadNumber) "__setattr__" = some (some (.builtin "object.__setattr__")))
    (ex_BadNumber : PySem.W.subIn K (.ref C_BadNumber) (.type "BaseException") = some true)
    (ty_BadNumber : PySem.W.typeIn K (.ref C_BadNumber) = some (.type "type"))
    (kc_BadNumber : PySem.W.keepIn K (.ref C_BadNumber) = true)
    (x_BadNumber : K.lookup C_BadNumber = some (excClassObj nm_BadNumber qn_BadNumber C_BadNumber NN_BadNumber bs_BadNumber [.ref C_WalkError, .type "ValueError", .type "Exception", .type "BaseException", .type "object"] true sn_BadNumber sb_BadNumber ab_BadNumber co_BadNumber dd_BadNumber m0_BadNumber m1_BadNumber m2_BadNumber m3_BadNumber m5_BadNumber "ValueError.__new__"))
    (na_BadNumber_value : PySem.W.findIn K (.ref C_BadNumber) "value" = some none)
    (g_C_BadPlace : PySem.W.nsIn K mainGlobals "BadPlace" = some (some (.ref C_BadPlace)))
    (m_BadPlace_init : PySem.W.findIn K (.ref C_BadPlace) "__init__" = some (some (.ref f_BadPlace_init)))
    (i_BadPlace_init : PySem.W.isFn K (.ref f_BadPlace_init) = true)
    (l_BadPlace_init : K.lookup f_BadPlace_init = some ⟨oc_BadPlace_init, od_BadPlace_init, .func (PySem.W.fnOf "__init__" "BadPlace.__init__" (defArgs s_BadPlace_init) (defBody s_BadPlace_init) (defScope s_BadPlace_init) .none kV_BadPlace_init dc_BadPlace_init pm_BadPlace_init an_BadPlace_init cd_BadPlace_init ct_BadPlace_init), sl_BadPlace_init⟩)
    (c_BadPlace_init : PySem.W.codeIn K cd_BadPlace_init "BadPlace.__init__" = true)
    (k_BadPlace_init : PySem.W.keepIn K (.ref f_BadPlace_init) = true)
    (sa_BadPlace : PySem.W.findIn K (.ref C_BadPlace) "__setattr__" = some (some (.builtin "object.__setattr__")))
    (ex_BadPlace : PySem.W.subIn K (.ref C_BadPlace) (.type "BaseException") = some true)
    (ty_BadPlace : PySem.W.typeIn K (.ref C_BadPlace) = some (.type "type"))
    (kc_BadPlace : PySem.W.keepIn K (.ref C_BadPlace) = true)
    (x_BadPlace : K.lookup C_BadPlace = some (excClassObj nm_BadPlace qn_BadPlace C_BadPlace NN_BadPlace bs_BadPlace [.ref C_WalkError, .type "ValueError", .type "Exception", .type "BaseException", .type "object"] true sn_BadPlace sb_BadPlace ab_BadPlace co_BadPlace dd_BadPlace m0_BadPlace m1_BadPlace m2_BadPlace m3_BadPlace m5_BadPlace "ValueError.__new__"))
    (na_BadPlace_value : PySem.W.findIn K (.ref C_BadPlace) "value" = some none)
    (g_C_BadWord : PySem.W.nsIn K mainGlobals "BadWord" = some (some (.ref C_BadWord)))
    (m_BadWord_init : PySem.W.findIn K (.ref C_BadWord) "__init__" = some (some (.ref f_BadWord_init)))
    (i_BadWord_init : PySem.W.isFn K (.ref f_BadWord_init) = true)
    (l_BadWord_init : K.lookup f_BadWord_init = some ⟨oc_BadWord_init, od_BadWord_init, .func (PySem.W.fnOf "__init__" "BadWord.__init__" (defArgs s_BadWord_init) (defBody s_BadWord_init) (defScope s_BadWord_init) .none kV_BadWord_init dc_BadWord_init pm_BadWord_init an_BadWord_init cd_BadWord_init ct_BadWord_init), sl_BadWord_init⟩)
    (c_BadWord_init : PySem.W.codeIn K cd_BadWord_init "BadWord.__init__" = true)
    (k_BadWord_init : PySem.W.keepIn K (.ref f_BadWord_init) = true)
    (sa_BadWord : PySem.W.findIn K (.ref C_BadWord) "__setattr__" = some (some (.builtin "object.__setattr__")))
    (ex_BadWord : PySem.W.subIn K (.ref C_BadWord) (.type "BaseException") = some true)
    (ty_BadWord : PySem.W.typeIn K (.ref C_BadWord) = some (.type "type"))
    (kc_BadWord : PySem.W.keepIn K (.ref C_BadWord) = true)
    (x_BadWord : K.lookup C_BadWord = some (excClassObj nm_BadWord qn_BadWord C_BadWord NN_BadWord bs_BadWord [.ref C_WalkError, .type "ValueError", .type "Exception", .type "BaseException", .type "object"] true sn_BadWord sb_BadWord ab_BadWord co_BadWord dd_BadWord m0_BadWord m1_BadWord m2_BadWord m3_BadWord m5_BadWord "ValueError.__new__"))
    (na_BadWord_value : PySem.W.findIn K (.ref C_BadWord) "value" = some none)
    (g_C_Place : PySem.W.nsIn K mainGlobals "Place" = some (some (.ref C_Place)))
    (pg_Place : PySem.W.plainGet K C_Place Str.empty = true)
    (hd_Place : PySem.W.hasDictIn K C_Place = true)
    (po_Place : PySem.W.plainOver K C_Place = true)
    (sa_Place : PySem.W.findIn K (.ref C_Place) "__setattr__" = some (some (.builtin "object.__setattr__")))
    (ca_Place : PySem.W.findIn K (.ref C_Place) "__class__" = some (some (.builtin "object.__class__")))
    (cm_Place : PySem.W.mroIn K C_Place (.type "object") = some true)
    (na_Place_x : PySem.W.findIn K (.ref C_Place) "x" = some none)
    (na_Place_y : PySem.W.findIn K (.ref C_Place) "y" = some none)
    (na_Place_area : PySem.W.findIn K (.ref C_Place) "area" = some none)
    (m_Place_init : PySem.W.findIn K (.ref C_Place) "__init__" = some (some (.ref f_Place_init)))
    (i_Place_init : PySem.W.isFn K (.ref f_Place_init) = true)
    (l_Place_init : K.lookup f_Place_init = some ⟨oc_Place_init, od_Place_init, .func (PySem.W.fnOf "__init__" "Place.__init__" (defArgs s_Place_init) (defBody s_Place_init) (defScope s_Place_init) .none kV_Place_init dc_Place_init pm_Place_init an_Place_init cd_Place_init ct_Place_init), sl_Place_init⟩)
    (c_Place_init : PySem.W.codeIn K cd_Place_init "Place.__init__" = true)
    (k_Place_init : PySem.W.keepIn K (.ref f_Place_init) = true)
    (mk_Place : PySem.W.makesIn K C_Place = true)
    (kc_Place : PySem.W.keepIn K (.ref C_Place) = true)
    (g_C_Bargain : PySem.W.nsIn K mainGlobals "Bargain" = some (some (.ref C_Bargain)))
    (pg_Bargain : PySem.W.plainGet K C_Bargain Str.empty = true)
    (hd_Bargain : PySem.W.hasDictIn K C_Bargain = true)
    (po_Bargain : PySem.W.plainOver K C_Bargain = true)
    (sa_Bargain : PySem.W.findIn K (.ref C_Bargain) "__setattr__" = some (some (.builtin "object.__setattr__")))
    (na_Bargain_across : PySem.W.findIn K (.ref C_Bargain) "across" = some none)
    (na_Bargain_up : PySem.W.findIn K (.ref C_Bargain) "up" = some none)
    (na_Bargain_product : PySem.W.findIn K (.ref C_Bargain) "product" = some none)
    (na_Bargain_wide : PySem.W.findIn K (.ref C_Bargain) "wide" = some none)
    (na_Bargain_high : PySem.W.findIn K (.ref C_Bargain) "high" = some none)
    (na_Bargain_narrowest : PySem.W.findIn K (.ref C_Bargain) "narrowest" = some none)
    (na_Bargain_widest : PySem.W.findIn K (.ref C_Bargain) "widest" = some none)
    (m_Bargain_init : PySem.W.findIn K (.ref C_Bargain) "__init__" = some (some (.ref f_Bargain_init)))
    (i_Bargain_init : PySem.W.isFn K (.ref f_Bargain_init) = true)
    (l_Bargain_init : K.lookup f_Bargain_init = some ⟨oc_Bargain_init, od_Bargain_init, .func (PySem.W.fnOf "__init__" "Bargain.__init__" (defArgs s_Bargain_init) (defBody s_Bargain_init) (defScope s_Bargain_init) .none kV_Bargain_init dc_Bargain_init pm_Bargain_init an_Bargain_init cd_Bargain_init ct_Bargain_init), sl_Bargain_init⟩)
    (c_Bargain_init : PySem.W.codeIn K cd_Bargain_init "Bargain.__init__" = true)
    (k_Bargain_init : PySem.W.keepIn K (.ref f_Bargain_init) = true)
    (mk_Bargain : PySem.W.makesIn K C_Bargain = true)
    (kc_Bargain : PySem.W.keepIn K (.ref C_Bargain) = true)
    (m_Bargain_best : PySem.W.findIn K (.ref C_Bargain) "best" = some (some (.ref f_Bargain_best)))
    (i_Bargain_best : PySem.W.isFn K (.ref f_Bargain_best) = true)
    (l_Bargain_best : K.lookup f_Bargain_best = some ⟨oc_Bargain_best, od_Bargain_best, .func (PySem.W.fnOf "best" "Bargain.best" (defArgs s_Bargain_best) (defBody s_Bargain_best) (defScope s_Bargain_best) .none kV_Bargain_best dc_Bargain_best pm_Bargain_best an_Bargain_best cd_Bargain_best ct_Bargain_best), sl_Bargain_best⟩)
    (c_Bargain_best : PySem.W.codeIn K cd_Bargain_best "Bargain.best" = true)
    (k_Bargain_best : PySem.W.keepIn K (.ref f_Bargain_best) = true)
    (m_Bargain_frame_by_widths : PySem.W.findIn K (.ref C_Bargain) "frame_by_widths" = some (some (.ref f_Bargain_frame_by_widths)))
    (i_Bargain_frame_by_widths : PySem.W.isFn K (.ref f_Bargain_frame_by_widths) = true)
    (l_Bargain_frame_by_widths : K.lookup f_Bargain_frame_by_widths = some ⟨oc_Bargain_frame_by_widths, od_Bargain_frame_by_widths, .func (PySem.W.fnOf "frame_by_widths" "Bargain.frame_by_widths" (defArgs s_Bargain_frame_by_widths) (defBody s_Bargain_frame_by_widths) (defScope s_Bargain_frame_by_widths) .none kV_Bargain_frame_by_widths dc_Bargain_frame_by_widths pm_Bargain_frame_by_widths an_Bargain_frame_by_widths cd_Bargain_frame_by_widths ct_Bargain_frame_by_widths), sl_Bargain_frame_by_widths⟩)
    (c_Bargain_frame_by_widths : PySem.W.codeIn K cd_Bargain_frame_by_widths "Bargain.frame_by_widths" = true)
    (k_Bargain_frame_by_widths : PySem.W.keepIn K (.ref f_Bargain_frame_by_widths) = true)
    (m_Bargain_may_be_cheaper : PySem.W.findIn K (.ref C_Bargain) "may_be_cheaper" = some (some (.ref f_Bargain_may_be_cheaper)))
    (i_Bargain_may_be_cheaper : PySem.W.isFn K (.ref f_Bargain_may_be_cheaper) = true)
    (l_Bargain_may_be_cheaper : K.lookup f_Bargain_may_be_cheaper = some ⟨oc_Bargain_may_be_cheaper, od_Bargain_may_be_cheaper, .func (PySem.W.fnOf "may_be_cheaper" "Bargain.may_be_cheaper" (defArgs s_Bargain_may_be_cheaper) (defBody s_Bargain_may_be_cheaper) (defScope s_Bargain_may_be_cheaper) .none kV_Bargain_may_be_cheaper dc_Bargain_may_be_cheaper pm_Bargain_may_be_cheaper an_Bargain_may_be_cheaper cd_Bargain_may_be_cheaper ct_Bargain_may_be_cheaper), sl_Bargain_may_be_cheaper⟩)
    (c_Bargain_may_be_cheaper : PySem.W.codeIn K cd_Bargain_may_be_cheaper "Bargain.may_be_cheaper" = true)
    (k_Bargain_may_be_cheaper : PySem.W.keepIn K (.ref f_Bargain_may_be_cheaper) = true)
    (m_Bargain_frame_by_costs : PySem.W.findIn K (.ref C_Bargain) "frame_by_costs" = some (some (.ref f_Bargain_frame_by_costs)))
    (i_Bargain_frame_by_costs : PySem.W.isFn K (.ref f_Bargain_frame_by_costs) = true)
    (l_Bargain_frame_by_costs : K.lookup f_Bargain_frame_by_costs = some ⟨oc_Bargain_frame_by_costs, od_Bargain_frame_by_costs, .func (PySem.W.fnOf "frame_by_costs" "Bargain.frame_by_costs" (defArgs s_Bargain_frame_by_costs) (defBody s_Bargain_frame_by_costs) (defScope s_Bargain_frame_by_costs) .none kV_Bargain_frame_by_costs dc_Bargain_frame_by_costs pm_Bargain_frame_by_costs an_Bargain_frame_by_costs cd_Bargain_frame_by_costs ct_Bargain_frame_by_costs), sl_Bargain_frame_by_costs⟩)
    (c_Bargain_frame_by_costs : PySem.W.codeIn K cd_Bargain_frame_by_costs "Bargain.frame_by_costs" = true)
    (k_Bargain_frame_by_costs : PySem.W.keepIn K (.ref f_Bargain_frame_by_costs) = true)
    (m_Bargain_least_cost : PySem.W.findIn K (.ref C_Bargain) "least_cost" = some (some (.ref f_Bargain_least_cost)))
    (i_Bargain_least_cost : PySem.W.isFn K (.ref f_Bargain_least_cost) = true)
    (l_Bargain_least_cost : K.lookup f_Bargain_least_cost = some ⟨oc_Bargain_least_cost, od_Bargain_least_cost, .func (PySem.W.fnOf "least_cost" "Bargain.least_cost" (defArgs s_Bargain_least_cost) (defBody s_Bargain_least_cost) (defScope s_Bargain_least_cost) .none kV_Bargain_least_cost dc_Bargain_least_cost pm_Bargain_least_cost an_Bargain_least_cost cd_Bargain_least_cost ct_Bargain_least_cost), sl_Bargain_least_cost⟩)
    (c_Bargain_least_cost : PySem.W.codeIn K cd_Bargain_least_cost "Bargain.least_cost" = true)
    (k_Bargain_least_cost : PySem.W.keepIn K (.ref f_Bargain_least_cost) = true)
    (m_Bargain_frame_of_cost : PySem.W.findIn K (.ref C_Bargain) "frame_of_cost" = some (some (.ref f_Bargain_frame_of_cost)))
    (i_Bargain_frame_of_cost : PySem.W.isFn K (.ref f_Bargain_frame_of_cost) = true)
    (l_Bargain_frame_of_cost : K.lookup f_Bargain_frame_of_cost = some ⟨oc_Bargain_frame_of_cost, od_Bargain_frame_of_cost, .func (PySem.W.fnOf "frame_of_cost" "Bargain.frame_of_cost" (defArgs s_Bargain_frame_of_cost) (defBody s_Bargain_frame_of_cost) (defScope s_Bargain_frame_of_cost) .none kV_Bargain_frame_of_cost dc_Bargain_frame_of_cost pm_Bargain_frame_of_cost an_Bargain_frame_of_cost cd_Bargain_frame_of_cost ct_Bargain_frame_of_cost), sl_Bargain_frame_of_cost⟩)
    (c_Bargain_frame_of_cost : PySem.W.codeIn K cd_Bargain_frame_of_cost "Bargain.frame_of_cost" = true)
    (k_Bargain_frame_of_cost : PySem.W.keepIn K (.ref f_Bargain_frame_of_cost) = true)
    (g_C_Ready : PySem.W.nsIn K mainGlobals "Ready" = some (some (.ref C_Ready)))
    (pg_Ready : PySem.W.plainGet K C_Ready Str.empty = true)
    (hd_Ready : PySem.W.hasDictIn K C_Ready = true)
    (po_Ready : PySem.W.plainOver K C_Ready = true)
    (sa_Ready : PySem.W.findIn K (.ref C_Ready) "__setattr__" = some (some (.builtin "object.__setattr__")))
    (ca_Ready : PySem.W.findIn K (.ref C_Ready) "__class__" = some (some (.builtin "object.__class__")))
    (cm_Ready : PySem.W.mroIn K C_Ready (.type "object") = some true)
    (na_Ready_runs : PySem.W.findIn K (.ref C_Ready) "runs" = some none)
    (g_C_Walk : PySem.W.nsIn K mainGlobals "Walk" = some (some (.ref C_Walk)))
    (pg_Walk : PySem.W.plainGet K C_Walk Str.empty = true)
    (hd_Walk : PySem.W.hasDictIn K C_Walk = true)
    (po_Walk : PySem.W.plainOver K C_Walk = true)
    (sa_Walk : PySem.W.findIn K (.ref C_Walk) "__setattr__" = some (some (.builtin "object.__setattr__")))
    (na_Walk_runs : PySem.W.findIn K (.ref C_Walk) "runs" = some none)
    (m_Walk_init : PySem.W.findIn K (.ref C_Walk) "__init__" = some (some (.ref f_Walk_init)))
    (i_Walk_init : PySem.W.isFn K (.ref f_Walk_init) = true)
    (l_Walk_init : K.lookup f_Walk_init = some ⟨oc_Walk_init, od_Walk_init, .func (PySem.W.fnOf "__init__" "Walk.__init__" (defArgs s_Walk_init) (defBody s_Walk_init) (defScope s_Walk_init) .none kV_Walk_init dc_Walk_init pm_Walk_init an_Walk_init cd_Walk_init ct_Walk_init), sl_Walk_init⟩)
    (c_Walk_init : PySem.W.codeIn K cd_Walk_init "Walk.__init__" = true)
    (k_Walk_init : PySem.W.keepIn K (.ref f_Walk_init) = true)
    (mk_Walk : PySem.W.makesIn K C_Walk = true)
    (kc_Walk : PySem.W.keepIn K (.ref C_Walk) = true)
    (g_C_Prices : PySem.W.nsIn K mainGlobals "Prices" = some (some (.ref C_Prices)))
    (pg_Prices : PySem.W.plainGet K C_Prices Str.empty = true)
    (hd_Prices : PySem.W.hasDictIn K C_Prices = true)
    (po_Prices : PySem.W.plainOver K C_Prices = true)
    (sa_Prices : PySem.W.findIn K (.ref C_Prices) "__setattr__" = some (some (.builtin "object.__setattr__")))
    (na_Prices_east : PySem.W.findIn K (.ref C_Prices) "east" = some none)
    (na_Prices_north : PySem.W.findIn K (.ref C_Prices) "north" = some none)
    (na_Prices_west : PySem.W.findIn K (.ref C_Prices) "west" = some none)
    (na_Prices_south : PySem.W.findIn K (.ref C_Prices) "south" = some none)
    (m_Prices_init : PySem.W.findIn K (.ref C_Prices) "__init__" = some (some (.ref f_Prices_init)))
    (i_Prices_init : PySem.W.isFn K (.ref f_Prices_init) = true)
    (l_Prices_init : K.lookup f_Prices_init = some ⟨oc_Prices_init, od_Prices_init, .func (PySem.W.fnOf "__init__" "Prices.__init__" (defArgs s_Prices_init) (defBody s_Prices_init) (defScope s_Prices_init) .none kV_Prices_init dc_Prices_init pm_Prices_init an_Prices_init cd_Prices_init ct_Prices_init), sl_Prices_init⟩)
    (c_Prices_init : PySem.W.codeIn K cd_Prices_init "Prices.__init__" = true)
    (k_Prices_init : PySem.W.keepIn K (.ref f_Prices_init) = true)
    (mk_Prices : PySem.W.makesIn K C_Prices = true)
    (kc_Prices : PySem.W.keepIn K (.ref C_Prices) = true)
    (m_Prices_price_of : PySem.W.findIn K (.ref C_Prices) "price_of" = some (some (.ref f_Prices_price_of)))
    (i_Prices_price_of : PySem.W.isFn K (.ref f_Prices_price_of) = true)
    (l_Prices_price_of : K.lookup f_Prices_price_of = some ⟨oc_Prices_price_of, od_Prices_price_of, .func (PySem.W.fnOf "price_of" "Prices.price_of" (defArgs s_Prices_price_of) (defBody s_Prices_price_of) (defScope s_Prices_price_of) .none kV_Prices_price_of dc_Prices_price_of pm_Prices_price_of an_Prices_price_of cd_Prices_price_of ct_Prices_price_of), sl_Prices_price_of⟩)
    (c_Prices_price_of : PySem.W.codeIn K cd_Prices_price_of "Prices.price_of" = true)
    (k_Prices_price_of : PySem.W.keepIn K (.ref f_Prices_price_of) = true)
    (m_Prices_least_price : PySem.W.findIn K (.ref C_Prices) "least_price" = some (some (.ref f_Prices_least_price)))
    (i_Prices_least_price : PySem.W.isFn K (.ref f_Prices_least_price) = true)
    (l_Prices_least_price : K.lookup f_Prices_least_price = some ⟨oc_Prices_least_price, od_Prices_least_price, .func (PySem.W.fnOf "least_price" "Prices.least_price" (defArgs s_Prices_least_price) (defBody s_Prices_least_price) (defScope s_Prices_least_price) .none kV_Prices_least_price dc_Prices_least_price pm_Prices_least_price an_Prices_least_price cd_Prices_least_price ct_Prices_least_price), sl_Prices_least_price⟩)
    (c_Prices_least_price : PySem.W.codeIn K cd_Prices_least_price "Prices.least_price" = true)
    (k_Prices_least_price : PySem.W.keepIn K (.ref f_Prices_least_price) = true)
    (m_Prices_frame : PySem.W.findIn K (.ref C_Prices) "frame" = some (some (.ref f_Prices_frame)))
    (i_Prices_frame : PySem.W.isFn K (.ref f_Prices_frame) = true)
    (l_Prices_frame : K.lookup f_Prices_frame = some ⟨oc_Prices_frame, od_Prices_frame, .func (PySem.W.fnOf "frame" "Prices.frame" (defArgs s_Prices_frame) (defBody s_Prices_frame) (defScope s_Prices_frame) .none kV_Prices_frame dc_Prices_frame pm_Prices_frame an_Prices_frame cd_Prices_frame ct_Prices_frame), sl_Prices_frame⟩)
    (c_Prices_frame : PySem.W.codeIn K cd_Prices_frame "Prices.frame" = true)
    (k_Prices_frame : PySem.W.keepIn K (.ref f_Prices_frame) = true)
    (cn : PySem.W.specialIn K (.builtin "object.__class__") "__get__" = some (some (.builtin "getset_descriptor.__get__")))
    (ct : PySem.W.takesIn K (.builtin "object.__class__") = some true)
    (io_Place_int : PySem.W.kitOne K (.ref C_Place) (.type "int") = some false)
    (io_Place_bool : PySem.W.kitOne K (.ref C_Place) (.type "bool") = some false)
    (is_NoneType_Place : PySem.W.kitOne K (.type "NoneType") (.ref C_Place) = some false)
    (is_bool_Place : PySem.W.kitOne K (.type "bool") (.ref C_Place) = some false)
    (is_int_Place : PySem.W.kitOne K (.type "int") (.ref C_Place) = some false)
    (is_str_Place : PySem.W.kitOne K (.type "str") (.ref C_Place) = some false)
    (is_list_Place : PySem.W.kitOne K (.type "list") (.ref C_Place) = some false)
    (is_tuple_Place : PySem.W.kitOne K (.type "tuple") (.ref C_Place) = some false)
    (is_dict_Place : PySem.W.kitOne K (.type "dict") (.ref C_Place) = some false)
    (is_list_Ready : PySem.W.kitOne K (.type "list") (.ref C_Ready) = some false)
    (n_abs : PySem.W.nsIn K mainGlobals "abs" = some none)
    (n_all : PySem.W.nsIn K mainGlobals "all" = some none)
    (n_bool : PySem.W.nsIn K mainGlobals "bool" = some none)
    (n_int : PySem.W.nsIn K mainGlobals "int" = some none)
    (n_isinstance : PySem.W.nsIn K mainGlobals "isinstance" = some none)
    (n_len : PySem.W.nsIn K mainGlobals "len" = some none)
    (n_list : PySem.W.nsIn K mainGlobals "list" = some none)
    (n_max : PySem.W.nsIn K mainGlobals "max" = some none)
    (n_min : PySem.W.nsIn K mainGlobals "min" = some none)
    (n_range : PySem.W.nsIn K mainGlobals "range" = some none)
    (n_str : PySem.W.nsIn K mainGlobals "str" = some none)
    (n_sum : PySem.W.nsIn K mainGlobals "sum" = some none)
    (n_tuple : PySem.W.nsIn K mainGlobals "tuple" = some none)
    (n_zip : PySem.W.nsIn K mainGlobals "zip" = some none)
    (gc_MOST_WIDTHS : PySem.W.nsIn K mainGlobals "MOST_WIDTHS" = some (some (.int 64 tk_MOST_WIDTHS)))
    (gc_MOST_RUNS : PySem.W.nsIn K mainGlobals "MOST_RUNS" = some (some (.int 10000 tk_MOST_RUNS)))
    (gc_HIGHEST_PRICE : PySem.W.nsIn K mainGlobals "HIGHEST_PRICE" = some (some (.int 1000 tk_HIGHEST_PRICE)))
    (gc_LETTERS : PySem.W.nsIn K mainGlobals "LETTERS" = some (some (.str "enws" tk_LETTERS)))
    (mi_gcd : PySem.W.nsIn K mainGlobals "gcd" = some (some (.builtin "math.gcd")))
    (mi_isqrt : PySem.W.nsIn K mainGlobals "isqrt" = some (some (.builtin "math.isqrt"))) {goal : Prop} (kk : ∀ T : Tx K mg, T.a_law = fa → goal) : goal := by
  refine kk { a_fewest_steps := (f_fewest_steps), d_fewest_steps := (_), F_fewest_steps := (fun_mk (st := s_fewest_steps) l_fewest_steps c_fewest_steps k_fewest_steps), b_fewest_steps := ((fun_mk (st := s_fewest_steps) l_fewest_steps c_fewest_steps k_fewest_steps).binds (ps := P_fewest_steps) fun _ _ _ _ _ _ us hl => match us, hl with | [_], _ => rfl), g_fewest_steps := (PySem.W.mg_of X G g_fewest_steps), a_quotient_up := (f_quotient_up), d_quotient_up := (_), F_quotient_up := (fun_mk (st := s_quotient_up) l_quotient_up c_quotient_up k_quotient_up), b_quotient_up := ((fun_mk (st := s_quotient_up) l_quotient_up c_quotient_up k_quotient_up).binds (ps := P_quotient_up) fun _ _ _ _ _ _ us hl => match us, hl with | [_, _], _ => rfl), g_quotient_up := (PySem.W.mg_of X G g_quotient_up), a_half_outline := (f_half_outline), d_half_outline := (_), F_half_outline := (fun_mk (st := s_half_outline) l_half_outline c_half_outline k_half_outline), b_half_outline := ((fun_mk (st := s_half_outline) l_half_outline c_half_outline k_half_outline).binds (ps := P_half_outline) fun _ _ _ _ _ _ us hl => match us, hl with | [_], _ => rfl), g_half_outline := (PySem.W.mg_of X G g_half_outline), a_is_integer := (f_is_integer), d_is_integer := (_), F_is_integer := (fun_mk (st := s_is_integer) l_is_integer c_is_integer k_is_integer), b_is_integer := ((fun_mk (st := s_is_integer) l_is_integer c_is_integer k_is_integer).binds (ps := P_is_integer) fun _ _ _ _ _ _ us hl => match us, hl with | [_], _ => rfl), g_is_integer := (PySem.W.mg_of X G g_is_integer), a_is_whole := (f_is_whole), d_is_whole := (_), F_is_whole := (fun_mk (st := s_is_whole) l_is_whole c_is_whole k_is_whole), b_is_whole := ((fun_mk (st := s_is_whole) l_is_whole c_is_whole k_is_whole).binds (ps := P_is_whole) fun _ _ _ _ _ _ us hl => match us, hl with | [_], _ => rfl), g_is_whole := (PySem.W.mg_of X G g_is_whole), a_check_integer := (f_check_integer), d_check_integer := (_), F_check_integer := (fun_mk (st := s_check_integer) l_check_integer c_check_integer k_check_integer), b_check_integer := ((fun_mk (st := s_check_integer) l_check_integer c_check_integer k_check_integer).binds (ps := P_check_integer) fun _ _ _ _ _ _ us hl => match us, hl with | [_], _ => rfl), g_check_integer := (PySem.W.mg_of X G g_check_integer), a_check_from := (f_check_from), d_check_from := (_), F_check_from := (fun_mk (st := s_check_from) l_check_from c_check_from k_check_from), b_check_from := ((fun_mk (st := s_check_from) l_check_from c_check_from k_check_from).binds (ps := P_check_from) fun _ _ _ _ _ _ us hl => match us, hl with | [_, _], _ => rfl), g_check_from := (PySem.W.mg_of X G g_check_from), a_check_place := (f_check_place), d_check_place := (_), F_check_place := (fun_mk (st := s_check_place) l_check_place c_check_place k_check_place), b_check_place := ((fun_mk (st := s_check_place) l_check_place c_check_place k_check_place).binds (ps := P_check_place) fun _ _ _ _ _ _ us hl => match us, hl with | [_], _ => rfl), g_check_place := (PySem.W.mg_of X G g_check_place), a_bezout := (f_bezout), d_bezout := (_), F_bezout := (fun_mk (st := s_bezout) l_bezout c_bezout k_bezout), b_bezout := ((fun_mk (st := s_bezout) l_bezout c_bezout k_bezout).binds (ps := P_bezout) fun _ _ _ _ _ _ us hl => match us, hl with | [_, _], _ => rfl), g_bezout := (PySem.W.mg_of X G g_bezout), a_cheapest_frame := (f_cheapest_frame), d_cheapest_frame := (_), F_cheapest_frame := (fun_mk (st := s_cheapest_frame) l_cheapest_frame c_cheapest_frame k_cheapest_frame), b_cheapest_frame := ((fun_mk (st := s_cheapest_frame) l_cheapest_frame c_cheapest_frame k_cheapest_frame).binds (ps := P_cheapest_frame) fun _ _ _ _ _ _ us hl => match us, hl with | [_, _, _, _, _], _ => rfl), g_cheapest_frame := (PySem.W.mg_of X G g_cheapest_frame), a_is_run := (f_is_run), d_is_run := (_), F_is_run := (fun_mk (st := s_is_run) l_is_run c_is_run k_is_run), b_is_run := ((fun_mk (st := s_is_run) l_is_run c_is_run k_is_run).binds (ps := P_is_run) fun _ _ _ _ _ _ us hl => match us, hl with | [_], _ => rfl), g_is_run := (PySem.W.mg_of X G g_is_run), a_joined_runs := (f_joined_runs), d_joined_runs := (_), F_joined_runs := (fun_mk (st := s_joined_runs) l_joined_runs c_joined_runs k_joined_runs), b_joined_runs := ((fun_mk (st := s_joined_runs) l_joined_runs c_joined_runs k_joined_runs).binds (ps := P_joined_runs) fun _ _ _ _ _ _ us hl => match us, hl with | [_], _ => rfl), g_joined_runs := (PySem.W.mg_of X G g_joined_runs), a_told_runs := (f_told_runs), d_told_runs := (_), F_told_runs := (fun_mk (st := s_told_runs) l_told_runs c_told_runs k_told_runs), b_told_runs := ((fun_mk (st := s_told_runs) l_told_runs c_told_runs k_told_runs).binds (ps := P_told_runs) fun _ _ _ _ _ _ us hl => match us, hl with | [_], _ => rfl), g_told_runs := (PySem.W.mg_of X G g_told_runs), a_steps := (f_steps), d_steps := (_), F_steps := (fun_mk (st := s_steps) l_steps c_steps k_steps), b_steps := ((fun_mk (st := s_steps) l_steps c_steps k_steps).binds (ps := P_steps) fun _ _ _ _ _ _ us hl => match us, hl with | [_], _ => rfl), g_steps := (PySem.W.mg_of X G g_steps), a_l_begin := (f_l_begin), d_l_begin := (_), F_l_begin := (fun_mk (st := s_l_begin) l_l_begin c_l_begin k_l_begin), b_l_begin := ((fun_mk (st := s_l_begin) l_l_begin c_l_begin k_l_begin).binds (ps := P_l_begin) fun _ _ _ _ _ _ us hl => match us, hl with | [_], _ => rfl), g_l_begin := (PySem.W.mg_of X G g_l_begin), a_l_draw := (f_l_draw), d_l_draw := (_), F_l_draw := (fun_mk (st := s_l_draw) l_l_draw c_l_draw k_l_draw), b_l_draw := ((fun_mk (st := s_l_draw) l_l_draw c_l_draw k_l_draw).binds (ps := P_l_draw) fun _ _ _ _ _ _ us hl => match us, hl with | [_, _], _ => rfl), g_l_draw := (PySem.W.mg_of X G g_l_draw), a_l_pick := (f_l_pick), d_l_pick := (_), F_l_pick := (fun_mk (st := s_l_pick) l_l_pick c_l_pick k_l_pick), b_l_pick := ((fun_mk (st := s_l_pick) l_l_pick c_l_pick k_l_pick).binds (ps := P_l_pick) fun _ _ _ _ _ _ us hl => match us, hl with | [_, _], _ => rfl), g_l_pick := (PySem.W.mg_of X G g_l_pick), a_l_number := (f_l_number), d_l_number := (_), F_l_number := (fun_mk (st := s_l_number) l_l_number c_l_number k_l_number), b_l_number := ((fun_mk (st := s_l_number) l_l_number c_l_number k_l_number).binds (ps := P_l_number) fun _ _ _ _ _ _ us hl => match us, hl with | [_, _], _ => rfl), g_l_number := (PySem.W.mg_of X G g_l_number), a_l_great := (f_l_great), d_l_great := (_), F_l_great := (fun_mk (st := s_l_great) l_l_great c_l_great k_l_great), b_l_great := ((fun_mk (st := s_l_great) l_l_great c_l_great k_l_great).binds (ps := P_l_great) fun _ _ _ _ _ _ us hl => match us, hl with | [_], _ => rfl), g_l_great := (PySem.W.mg_of X G g_l_great), a_l_signed := (f_l_signed), d_l_signed := (_), F_l_signed := (fun_mk (st := s_l_signed) l_l_signed c_l_signed k_l_signed), b_l_signed := ((fun_mk (st := s_l_signed) l_l_signed c_l_signed k_l_signed).binds (ps := P_l_signed) fun _ _ _ _ _ _ us hl => match us, hl with | [_], _ => rfl), g_l_signed := (PySem.W.mg_of X G g_l_signed), a_l_step := (f_l_step), d_l_step := (_), F_l_step := (fun_mk (st := s_l_step) l_l_step c_l_step k_l_step), b_l_step := ((fun_mk (st := s_l_step) l_l_step c_l_step k_l_step).binds (ps := P_l_step) fun _ _ _ _ _ _ us hl => match us, hl with | [_, _, _], _ => rfl), g_l_step := (PySem.W.mg_of X G g_l_step), a_l_led := (f_l_led), d_l_led := (_), F_l_led := (fun_mk (st := s_l_led) l_l_led c_l_led k_l_led), b_l_led := ((fun_mk (st := s_l_led) l_l_led c_l_led k_l_led).binds (ps := P_l_led) fun _ _ _ _ _ _ us hl => match us, hl with | [_], _ => rfl), g_l_led := (PySem.W.mg_of X G g_l_led), a_l_behind := (f_l_behind), d_l_behind := (_), F_l_behind := (fun_mk (st := s_l_behind) l_l_behind c_l_behind k_l_behind), b_l_behind := ((fun_mk (st := s_l_behind) l_l_behind c_l_behind k_l_behind).binds (ps := P_l_behind) fun _ _ _ _ _ _ us hl => match us, hl with | [_, _], _ => rfl), g_l_behind := (PySem.W.mg_of X G g_l_behind), a_l_back := (f_l_back), d_l_back := (_), F_l_back := (fun_mk (st := s_l_back) l_l_back c_l_back k_l_back), b_l_back := ((fun_mk (st := s_l_back) l_l_back c_l_back k_l_back).binds (ps := P_l_back) fun _ _ _ _ _ _ us hl => match us, hl with | [_], _ => rfl), g_l_back := (PySem.W.mg_of X G g_l_back), a_l_place := (f_l_place), d_l_place := (_), F_l_place := (fun_mk (st := s_l_place) l_l_place c_l_place k_l_place), b_l_place := ((fun_mk (st := s_l_place) l_l_place c_l_place k_l_place).binds (ps := P_l_place) fun _ _ _ _ _ _ us hl => match us, hl with | [_], _ => rfl), g_l_place := (PySem.W.mg_of X G g_l_place), a_l_counts := (f_l_counts), d_l_counts := (_), F_l_counts := (fun_mk (st := s_l_counts) l_l_counts c_l_counts k_l_counts), b_l_counts := ((fun_mk (st := s_l_counts) l_l_counts c_l_counts k_l_counts).binds (ps := P_l_counts) fun _ _ _ _ _ _ us hl => match us, hl with | [_], _ => rfl), g_l_counts := (PySem.W.mg_of X G g_l_counts), a_l_made := (f_l_made), d_l_made := (_), F_l_made := (fun_mk (st := s_l_made) l_l_made c_l_made k_l_made), b_l_made := ((fun_mk (st := s_l_made) l_l_made c_l_made k_l_made).binds (ps := P_l_made) fun _ _ _ _ _ _ us hl => match us, hl with | [_], _ => rfl), g_l_made := (PySem.W.mg_of X G g_l_made), a_l_spot := (f_l_spot), d_l_spot := (_), F_l_spot := (fun_mk (st := s_l_spot) l_l_spot c_l_spot k_l_spot), b_l_spot := ((fun_mk (st := s_l_spot) l_l_spot c_l_spot k_l_spot).binds (ps := P_l_spot) fun _ _ _ _ _ _ us hl => match us, hl with | [_], _ => rfl), g_l_spot := (PySem.W.mg_of X G g_l_spot), a_l_mirrors_right := (f_l_mirrors_right), d_l_mirrors_right := (_), F_l_mirrors_right := (fun_mk (st := s_l_mirrors_right) l_l_mirrors_right c_l_mirrors_right k_l_mirrors_right), b_l_mirrors_right := ((fun_mk (st := s_l_mirrors_right) l_l_mirrors_right c_l_mirrors_right k_l_mirrors_right).binds (ps := P_l_mirrors_right) fun _ _ _ _ _ _ us hl => match us, hl with | [_, _, _], _ => rfl), g_l_mirrors_right := (PySem.W.mg_of X G g_l_mirrors_right), a_l_walks_right := (f_l_walks_right), d_l_walks_right := (_), F_l_walks_right := (fun_mk (st := s_l_walks_right) l_l_walks_right c_l_walks_right k_l_walks_right), b_l_walks_right := ((fun_mk (st := s_l_walks_right) l_l_walks_right c_l_walks_right k_l_walks_right).binds (ps := P_l_walks_right) fun _ _ _ _ _ _ us hl => match us, hl with | [_, _, _], _ => rfl), g_l_walks_right := (PySem.W.mg_of X G g_l_walks_right), a_law := (f_law), d_law := (_), F_law := (fun_mk (st := s_law) l_law c_law k_law), b_law := ((fun_mk (st := s_law) l_law c_law k_law).binds (ps := P_law) fun _ _ _ _ _ _ us hl => match us, hl with | [_], _ => rfl), g_law := (PySem.W.mg_of X G g_law), C_BadNumber := (C_BadNumber), g_C_BadNumber := (PySem.W.mg_of X G g_C_BadNumber), a_BadNumber_init := (f_BadNumber_init), d_BadNumber_init := (_), F_BadNumber_init := (fun_mk (st := s_BadNumber_init) l_BadNumber_init c_BadNumber_init k_BadNumber_init), b_BadNumber_init := ((fun_mk (st := s_BadNumber_init) l_BadNumber_init c_BadNumber_init k_BadNumber_init).binds (ps := P_BadNumber_init) fun _ _ _ _ _ _ us hl => match us, hl with | [_, _], _ => rfl), X_BadNumber := (⟨⟨nm_BadNumber, qn_BadNumber, NN_BadNumber, bs_BadNumber, _, sn_BadNumber, sb_BadNumber, ab_BadNumber, co_BadNumber, dd_BadNumber, m0_BadNumber, m1_BadNumber, m2_BadNumber, m3_BadNumber, m5_BadNumber, x_BadNumber, rfl⟩, sa_BadNumber, ex_BadNumber, ty_BadNumber, kc_BadNumber⟩), ei_BadNumber := (m_BadNumber_init), et_BadNumber := (beq_iff_eq.mp i_BadNumber_init), na_BadNumber_value := (na_BadNumber_value), C_BadPlace := (C_BadPlace), g_C_BadPlace := (PySem.W.mg_of X G g_C_BadPlace), a_BadPlace_init := (f_BadPlace_init), d_BadPlace_init := (_), F_BadPlace_init := (fun_mk (st := s_BadPlace_init) l_BadPlace_init c_BadPlace_init k_BadPlace_init), b_BadPlace_init := ((fun_mk (st := s_BadPlace_init) l_BadPlace_init c_BadPlace_init k_BadPlace_init).binds (ps := P_BadPlace_init) fun _ _ _ _ _ _ us hl => match us, hl with | [_, _], _ => rfl), X_BadPlace := (⟨⟨nm_BadPlace, qn_BadPlace, NN_BadPlace, bs_BadPlace, _, sn_BadPlace, sb_BadPlace, ab_BadPlace, co_BadPlace, dd_BadPlace, m0_BadPlace, m1_BadPlace, m2_BadPlace, m3_BadPlace, m5_BadPlace, x_BadPlace, rfl⟩, sa_BadPlace, ex_BadPlace, ty_BadPlace, kc_BadPlace⟩), ei_BadPlace := (m_BadPlace_init), et_BadPlace := (beq_iff_eq.mp i_BadPlace_init), na_BadPlace_value := (na_BadPlace_value), C_BadWord := (C_BadWord), g_C_BadWord := (PySem.W.mg_of X G g_C_BadWord), a_BadWord_init := (f_BadWord_init), d_BadWord_init := (_), F_BadWord_init := (fun_mk (st := s_BadWord_init) l_BadWord_init c_BadWord_init k_BadWord_init), b_BadWord_init := ((fun_mk (st := s_BadWord_init) l_BadWord_init c_BadWord_init k_BadWord_init).binds (ps := P_BadWord_init) fun _ _ _ _ _ _ us hl => match us, hl with | [_, _], _ => rfl), X_BadWord := (⟨⟨nm_BadWord, qn_BadWord, NN_BadWord, bs_BadWord, _, sn_BadWord, sb_BadWord, ab_BadWord, co_BadWord, dd_BadWord, m0_BadWord, m1_BadWord, m2_BadWord, m3_BadWord, m5_BadWord, x_BadWord, rfl⟩, sa_BadWord, ex_BadWord, ty_BadWord, kc_BadWord⟩), ei_BadWord := (m_BadWord_init), et_BadWord := (beq_iff_eq.mp i_BadWord_init), na_BadWord_value := (na_BadWord_value), C_Place := (C_Place), g_C_Place := (PySem.W.mg_of X G g_C_Place), cl_Place := (⟨pg_Place, hd_Place, po_Place, sa_Place⟩), ca_Place := (ca_Place), cm_Place := (cm_Place), na_Place_x := (na_Place_x), na_Place_y := (na_Place_y), na_Place_area := (na_Place_area), a_Place_init := (f_Place_init), d_Place_init := (_), F_Place_init := (fun_mk (st := s_Place_init) l_Place_init c_Place_init k_Place_init), b_Place_init := ((fun_mk (st := s_Place_init) l_Place_init c_Place_init k_Place_init).binds (ps := P_Place_init) fun _ _ _ _ _ _ us hl => match us, hl with | [_, _, _, _], _ => rfl), M_Place := (⟨mk_Place, m_Place_init, i_Place_init, kc_Place⟩), C_Bargain := (C_Bargain), g_C_Bargain := (PySem.W.mg_of X G g_C_Bargain), cl_Bargain := (⟨pg_Bargain, hd_Bargain, po_Bargain, sa_Bargain⟩), na_Bargain_across := (na_Bargain_across), na_Bargain_up := (na_Bargain_up), na_Bargain_product := (na_Bargain_product), na_Bargain_wide := (na_Bargain_wide), na_Bargain_high := (na_Bargain_high), na_Bargain_narrowest := (na_Bargain_narrowest), na_Bargain_widest := (na_Bargain_widest), a_Bargain_init := (f_Bargain_init), d_Bargain_init := (_), F_Bargain_init := (fun_mk (st := s_Bargain_init) l_Bargain_init c_Bargain_init k_Bargain_init), b_Bargain_init := ((fun_mk (st := s_Bargain_init) l_Bargain_init c_Bargain_init k_Bargain_init).binds (ps := P_Bargain_init) fun _ _ _ _ _ _ us hl => match us, hl with | [_, _, _, _, _, _], _ => rfl), M_Bargain := (⟨mk_Bargain, m_Bargain_init, i_Bargain_init, kc_Bargain⟩), a_Bargain_best := (f_Bargain_best), d_Bargain_best := (_), F_Bargain_best := (fun_mk (st := s_Bargain_best) l_Bargain_best c_Bargain_best k_Bargain_best), b_Bargain_best := ((fun_mk (st := s_Bargain_best) l_Bargain_best c_Bargain_best k_Bargain_best).binds (ps := P_Bargain_best) fun _ _ _ _ _ _ us hl => match us, hl with | [_], _ => rfl), M_Bargain_best := (⟨m_Bargain_best, i_Bargain_best, k_Bargain_best⟩), a_Bargain_frame_by_widths := (f_Bargain_frame_by_widths), d_Bargain_frame_by_widths := (_), F_Bargain_frame_by_widths := (fun_mk (st := s_Bargain_frame_by_widths) l_Bargain_frame_by_widths c_Bargain_frame_by_widths k_Bargain_frame_by_widths), b_Bargain_frame_by_widths := ((fun_mk (st := s_Bargain_frame_by_widths) l_Bargain_frame_by_widths c_Bargain_frame_by_widths k_Bargain_frame_by_widths).binds (ps := P_Bargain_frame_by_widths) fun _ _ _ _ _ _ us hl => match us, hl with | [_, _], _ => rfl), M_Bargain_frame_by_widths := (⟨m_Bargain_frame_by_widths, i_Bargain_frame_by_widths, k_Bargain_frame_by_widths⟩), a_Bargain_may_be_cheaper := (f_Bargain_may_be_cheaper), d_Bargain_may_be_cheaper := (_), F_Bargain_may_be_cheaper := (fun_mk (st := s_Bargain_may_be_cheaper) l_Bargain_may_be_cheaper c_Bargain_may_be_cheaper k_Bargain_may_be_cheaper), b_Bargain_may_be_cheaper := ((fun_mk (st := s_Bargain_may_be_cheaper) l_Bargain_may_be_cheaper c_Bargain_may_be_cheaper k_Bargain_may_be_cheaper).binds (ps := P_Bargain_may_be_cheaper) fun _ _ _ _ _ _ us hl => match us, hl with | [_, _, _], _ => rfl), M_Bargain_may_be_cheaper := (⟨m_Bargain_may_be_cheaper, i_Bargain_may_be_cheaper, k_Bargain_may_be_cheaper⟩), a_Bargain_frame_by_costs := (f_Bargain_frame_by_costs), d_Bargain_frame_by_costs := (_), F_Bargain_frame_by_costs := (fun_mk (st := s_Bargain_frame_by_costs) l_Bargain_frame_by_costs c_Bargain_frame_by_costs k_Bargain_frame_by_costs), b_Bargain_frame_by_costs := ((fun_mk (st := s_Bargain_frame_by_costs) l_Bargain_frame_by_costs c_Bargain_frame_by_costs k_Bargain_frame_by_costs).binds (ps := P_Bargain_frame_by_costs) fun _ _ _ _ _ _ us hl => match us, hl with | [_], _ => rfl), M_Bargain_frame_by_costs := (⟨m_Bargain_frame_by_costs, i_Bargain_frame_by_costs, k_Bargain_frame_by_costs⟩), a_Bargain_least_cost := (f_Bargain_least_cost), d_Bargain_least_cost := (_), F_Bargain_least_cost := (fun_mk (st := s_Bargain_least_cost) l_Bargain_least_cost c_Bargain_least_cost k_Bargain_least_cost), b_Bargain_least_cost := ((fun_mk (st := s_Bargain_least_cost) l_Bargain_least_cost c_Bargain_least_cost k_Bargain_least_cost).binds (ps := P_Bargain_least_cost) fun _ _ _ _ _ _ us hl => match us, hl with | [_], _ => rfl), M_Bargain_least_cost := (⟨m_Bargain_least_cost, i_Bargain_least_cost, k_Bargain_least_cost⟩), a_Bargain_frame_of_cost := (f_Bargain_frame_of_cost), d_Bargain_frame_of_cost := (_), F_Bargain_frame_of_cost := (fun_mk (st := s_Bargain_frame_of_cost) l_Bargain_frame_of_cost c_Bargain_frame_of_cost k_Bargain_frame_of_cost), b_Bargain_frame_of_cost := ((fun_mk (st := s_Bargain_frame_of_cost) l_Bargain_frame_of_cost c_Bargain_frame_of_cost k_Bargain_frame_of_cost).binds (ps := P_Bargain_frame_of_cost) fun _ _ _ _ _ _ us hl => match us, hl with | [_, _, _], _ => rfl), M_Bargain_frame_of_cost := (⟨m_Bargain_frame_of_cost, i_Bargain_frame_of_cost, k_Bargain_frame_of_cost⟩), C_Ready := (C_Ready), g_C_Ready := (PySem.W.mg_of X G g_C_Ready), cl_Ready := (⟨pg_Ready, hd_Ready, po_Ready, sa_Ready⟩), ca_Ready := (ca_Ready), cm_Ready := (cm_Ready), na_Ready_runs := (na_Ready_runs), C_Walk := (C_Walk), g_C_Walk := (PySem.W.mg_of X G g_C_Walk), cl_Walk := (⟨pg_Walk, hd_Walk, po_Walk, sa_Walk⟩), na_Walk_runs := (na_Walk_runs), a_Walk_init := (f_Walk_init), d_Walk_init := (_), F_Walk_init := (fun_mk (st := s_Walk_init) l_Walk_init c_Walk_init k_Walk_init), b_Walk_init := ((fun_mk (st := s_Walk_init) l_Walk_init c_Walk_init k_Walk_init).binds (ps := P_Walk_init) fun _ _ _ _ _ _ us hl => match us, hl with | [_, _], _ => rfl), M_Walk := (⟨mk_Walk, m_Walk_init, i_Walk_init, kc_Walk⟩), C_Prices := (C_Prices), g_C_Prices := (PySem.W.mg_of X G g_C_Prices), cl_Prices := (⟨pg_Prices, hd_Prices, po_Prices, sa_Prices⟩), na_Prices_east := (na_Prices_east), na_Prices_north := (na_Prices_north), na_Prices_west := (na_Prices_west), na_Prices_south := (na_Prices_south), a_Prices_init := (f_Prices_init), d_Prices_init := (_), F_Prices_init := (fun_mk (st := s_Prices_init) l_Prices_init c_Prices_init k_Prices_init), b_Prices_init := ((fun_mk (st := s_Prices_init) l_Prices_init c_Prices_init k_Prices_init).binds (ps := P_Prices_init) fun _ _ _ _ _ _ us hl => match us, hl with | [_, _, _, _, _], _ => rfl), M_Prices := (⟨mk_Prices, m_Prices_init, i_Prices_init, kc_Prices⟩), a_Prices_price_of := (f_Prices_price_of), d_Prices_price_of := (_), F_Prices_price_of := (fun_mk (st := s_Prices_price_of) l_Prices_price_of c_Prices_price_of k_Prices_price_of), b_Prices_price_of := ((fun_mk (st := s_Prices_price_of) l_Prices_price_of c_Prices_price_of k_Prices_price_of).binds (ps := P_Prices_price_of) fun _ _ _ _ _ _ us hl => match us, hl with | [_, _], _ => rfl), M_Prices_price_of := (⟨m_Prices_price_of, i_Prices_price_of, k_Prices_price_of⟩), a_Prices_least_price := (f_Prices_least_price), d_Prices_least_price := (_), F_Prices_least_price := (fun_mk (st := s_Prices_least_price) l_Prices_least_price c_Prices_least_price k_Prices_least_price), b_Prices_least_price := ((fun_mk (st := s_Prices_least_price) l_Prices_least_price c_Prices_least_price k_Prices_least_price).binds (ps := P_Prices_least_price) fun _ _ _ _ _ _ us hl => match us, hl with | [_, _], _ => rfl), M_Prices_least_price := (⟨m_Prices_least_price, i_Prices_least_price, k_Prices_least_price⟩), a_Prices_frame := (f_Prices_frame), d_Prices_frame := (_), F_Prices_frame := (fun_mk (st := s_Prices_frame) l_Prices_frame c_Prices_frame k_Prices_frame), b_Prices_frame := ((fun_mk (st := s_Prices_frame) l_Prices_frame c_Prices_frame k_Prices_frame).binds (ps := P_Prices_frame) fun _ _ _ _ _ _ us hl => match us, hl with | [_, _], _ => rfl), M_Prices_frame := (⟨m_Prices_frame, i_Prices_frame, k_Prices_frame⟩), cn := (cn), ct := (ct), io_Place_int := (io_Place_int), io_Place_bool := (io_Place_bool), is_NoneType_Place := (is_NoneType_Place), is_bool_Place := (is_bool_Place), is_int_Place := (is_int_Place), is_str_Place := (is_str_Place), is_list_Place := (is_list_Place), is_tuple_Place := (is_tuple_Place), is_dict_Place := (is_dict_Place), is_list_Ready := (is_list_Ready), n_abs := (PySem.W.mg_none_of X G n_abs), n_all := (PySem.W.mg_none_of X G n_all), n_bool := (PySem.W.mg_none_of X G n_bool), n_int := (PySem.W.mg_none_of X G n_int), n_isinstance := (PySem.W.mg_none_of X G n_isinstance), n_len := (PySem.W.mg_none_of X G n_len), n_list := (PySem.W.mg_none_of X G n_list), n_max := (PySem.W.mg_none_of X G n_max), n_min := (PySem.W.mg_none_of X G n_min), n_range := (PySem.W.mg_none_of X G n_range), n_str := (PySem.W.mg_none_of X G n_str), n_sum := (PySem.W.mg_none_of X G n_sum), n_tuple := (PySem.W.mg_none_of X G n_tuple), n_zip := (PySem.W.mg_none_of X G n_zip), tk_MOST_WIDTHS := (tk_MOST_WIDTHS), gc_MOST_WIDTHS := (PySem.W.mg_of X G gc_MOST_WIDTHS), tk_MOST_RUNS := (tk_MOST_RUNS), gc_MOST_RUNS := (PySem.W.mg_of X G gc_MOST_RUNS), tk_HIGHEST_PRICE := (tk_HIGHEST_PRICE), gc_HIGHEST_PRICE := (PySem.W.mg_of X G gc_HIGHEST_PRICE), tk_LETTERS := (tk_LETTERS), gc_LETTERS := (PySem.W.mg_of X G gc_LETTERS), mi_gcd := (PySem.W.mg_of X G mi_gcd), mi_isqrt := (PySem.W.mg_of X G mi_isqrt) } ?_
  have e := hfa.symm.trans (PySem.W.mg_of X G g_law)
  cases e
  rfl
abbrev L_DIRECTIONS : List (Str × List V) := [("e", [V.int (1), V.int (0)]), ("n", [V.int (0), V.int (1)]), ("w", [V.int (-1), V.int (0)]), ("s", [V.int (0), V.int (-1)])]
theorem cd_mk_DIRECTIONS {K : PySem.W.Frag} {w : World} {h : Heap} (KX : K.In h) {a b0 b1 b2 b3 : Addr} {es : Array DictEntry} {ep : Nat} {t0 t1 t2 t3 : Tok} {od0 od1 od2 od3 : Option Addr} {its0 its1 its2 its3 : Array Value} {n0 n1 n2 n3 : Nat} {sl0 sl1 sl2 sl3 : Array (Option Value)}
    (x : PySem.W.nsIn K mainGlobals "DIRECTIONS" = some (some (.ref a))) (y : K.lookup a = some ⟨.type "dict", none, .dict es ep, #[]⟩) (z : es.toList = [⟨hashStr w "e", .str "e" t0, .ref b0⟩, ⟨hashStr w "n", .str "n" t1, .ref b1⟩, ⟨hashStr w "w", .str "w" t2, .ref b2⟩, ⟨hashStr w "s", .str "s" t3, .ref b3⟩]) (sm : (a == sysModules) = false)
    (l0 : K.lookup b0 = some ⟨.type "tuple", od0, .seq its0 n0, sl0⟩) (v0 : its0.toList.map absV = ([V.int (1), V.int (0)]).map some) (l1 : K.lookup b1 = some ⟨.type "tuple", od1, .seq its1 n1, sl1⟩) (v1 : its1.toList.map absV = ([V.int (0), V.int (1)]).map some) (l2 : K.lookup b2 = some ⟨.type "tuple", od2, .seq its2 n2, sl2⟩) (v2 : its2.toList.map absV = ([V.int (-1), V.int (0)]).map some) (l3 : K.lookup b3 = some ⟨.type "tuple", od3, .seq its3 n3, sl3⟩) (v3 : its3.toList.map absV = ([V.int (0), V.int (-1)]).map some)
    : CDict K w "DIRECTIONS" L_DIRECTIONS := ⟨fun a' ha' => by
  rw [x] at ha'
  cases ha'
  exact ⟨es, ep, y, by rw [z]; exact ⟨⟨t0, b0, rfl, fun _ => sqT_const l0 v0 (by decide)⟩, ⟨t1, b1, rfl, fun _ => sqT_const l1 v1 (by decide)⟩, ⟨t2, b2, rfl, fun _ => sqT_const l2 v2 (by decide)⟩, ⟨t3, b3, rfl, fun _ => sqT_const l3 v3 (by decide)⟩, trivial⟩, sm⟩⟩
theorem cd_use_DIRECTIONS {K : PySem.W.Frag} {w : World} {goal : Prop} {h : Heap} (KX : K.In h) {a b0 b1 b2 b3 : Addr} {es : Array DictEntry} {ep : Nat} {t0 t1 t2 t3 : Tok} {od0 od1 od2 od3 : Option Addr} {its0 its1 its2 its3 : Array Value} {n0 n1 n2 n3 : Nat} {sl0 sl1 sl2 sl3 : Array (Option Value)}
    (x : PySem.W.nsIn K mainGlobals "DIRECTIONS" = some (some (.ref a))) (y : K.lookup a = some ⟨.type "dict", none, .dict es ep, #[]⟩) (z : es.toList = [⟨hashStr w "e", .str "e" t0, .ref b0⟩, ⟨hashStr w "n", .str "n" t1, .ref b1⟩, ⟨hashStr w "w", .str "w" t2, .ref b2⟩, ⟨hashStr w "s", .str "s" t3, .ref b3⟩]) (sm : (a == sysModules) = false)
    (l0 : K.lookup b0 = some ⟨.type "tuple", od0, .seq its0 n0, sl0⟩) (v0 : its0.toList.map absV = ([V.int (1), V.int (0)]).map some) (l1 : K.lookup b1 = some ⟨.type "tuple", od1, .seq its1 n1, sl1⟩) (v1 : its1.toList.map absV = ([V.int (0), V.int (1)]).map some) (l2 : K.lookup b2 = some ⟨.type "tuple", od2, .seq its2 n2, sl2⟩) (v2 : its2.toList.map absV = ([V.int (-1), V.int (0)]).map some) (l3 : K.lookup b3 = some ⟨.type "tuple", od3, .seq its3 n3, sl3⟩) (v3 : its3.toList.map absV = ([V.int (0), V.int (-1)]).map some) (f : CDict K w "DIRECTIONS" L_DIRECTIONS → goal) : goal := f (cd_mk_DIRECTIONS KX x y z sm l0 v0 l1 v1 l2 v2 l3 v3)
end AW

set_option linter.all false
set_option maxRecDepth 100000
set_option maxHeartbeats 4000000
namespace AW
open PySem PySem.Spec PyProof.Rows L2
section
variable {K : PySem.W.Frag} {mg : Str → Option Value}
/-- the type of a value of the law's -/
def TyT (T : Tx K mg) (t : Value) : Prop := t = .ref T.C_Place ∨ t = .type "NoneType" ∨ t = .type "bool" ∨ t = .type "int" ∨ t = .type "str" ∨ t = .type "list" ∨ t = .type "tuple" ∨ t = .type "dict"
def isI (t : Value) : Bool := t == .type "int" || t == .type "bool"
def isB (t : Value) : Bool := t == .type "bool"
def isP (T : Tx K mg) (t : Value) : Bool := t == .ref T.C_Place
theorem kit_int (T : Tx K mg) {t : Value} (h : TyT T t) : PySem.W.kitOne K t (.type "int") = some (isI t) := by
  rcases h with rfl | rfl | rfl | rfl | rfl | rfl | rfl | rfl
  · exact T.io_Place_int
  all_goals exact kit_ty (by decide +kernel)
theorem kit_bool (T : Tx K mg) {t : Value} (h : TyT T t) : PySem.W.kitOne K t (.type "bool") = some (isB t) := by
  rcases h with rfl | rfl | rfl | rfl | rfl | rfl | rfl | rfl
  · exact T.io_Place_bool
  all_goals exact kit_ty (by decide +kernel)
theorem kit_self {t : Value} : PySem.W.kitOne K t t = some true := by
  unfold PySem.W.kitOne
  rw [if_pos (by simp)]
theorem kit_place (T : Tx K mg) {t : Value} (h : TyT T t) : PySem.W.kitOne K t (.ref T.C_Place) = some (isP T t) := by
  rcases h with rfl | rfl | rfl | rfl | rfl | rfl | rfl | rfl
  · rw [kit_self]; simp [isP]
  · exact T.is_NoneType_Place
  · exact T.is_bool_Place
  · exact T.is_int_Place
  · exact T.is_str_Place
  · exact T.is_list_Place
  · exact T.is_tuple_Place
  · exact T.is_dict_Place
def intV : V → Bool
  | .int _ => true
  | _ => false
theorem intV_of {H : Hp} {v : V} {t : Value} (ty : TyX K H v t) : (isI t && !isB t) = intV v := by
  cases ty with
  | base b => cases b <;> first | rfl | (simp [isI, isB, intV])
  | _ => rfl
/-- a value of the law's, in the heap H -/
def Vl (T : Tx K mg) (H : Hp) (v : V) : Prop := ∃ t, TyX K H v t ∧ TyT T t
theorem TyOf.mono {H H' : Hp} {v : V} {t : Value} (s : Same H H') (h : TyOf K H v t) : TyOf K H' v t := by
  cases h with
  | non => exact .non
  | bl x => exact .bl x
  | int i => exact .int i
  | str x => exact .str x
  | flt x => exact .flt x
  | lst e => exact .lst (s _ _ e)
  | frz e => exact .frz (s _ _ e)
  | tup e => exact .tup (s _ _ e)
  | dK e => exact .dK (s _ _ e)
  | dT e => exact .dT (s _ _ e)
  | ins e cl ha hn htk hm => exact .ins (s _ _ e) cl ha hn htk hm
theorem TyX.mono {H H' : Hp} {v : V} {t : Value} (s : Same H H') (h : TyX K H v t) : TyX K H' v t := by
  cases h with
  | base b => exact .base (TyOf.mono s b)
  | byt b => exact .byt b
  | set e => exact .set (s _ _ e)
  | kList e c => exact .kList e c
  | kTuple e c => exact .kTuple e c
  | kDict e c => exact .kDict e c
  | fTuple e => exact .fTuple (s _ _ e)
  | fDict e => exact .fDict (s _ _ e)
theorem Vl.mono {T : Tx K mg} {H H' : Hp} {v : V} (s : Same H H') (h : Vl T H v) : Vl T H' v := let ⟨t, a, b⟩ := h; ⟨t, TyX.mono s a, b⟩
theorem Vl.int {T : Tx K mg} {H : Hp} (i : Int) : Vl T H (.int i) := ⟨_, .base (.int i), .inr (.inr (.inr (.inl rfl)))⟩
theorem Vl.non {T : Tx K mg} {H : Hp} : Vl T H .non := ⟨_, .base .non, .inr (.inl rfl)⟩
theorem Vl.bl {T : Tx K mg} {H : Hp} (b : Bool) : Vl T H (.bl b) := ⟨_, .base (.bl b), .inr (.inr (.inl rfl))⟩
theorem Vl.str {T : Tx K mg} {H : Hp} (b : Str) : Vl T H (.str b) := ⟨_, .base (.str b), .inr (.inr (.inr (.inr (.inl rfl))))⟩
theorem Vl.lst {T : Tx K mg} {H : Hp} {a : Addr} {xs : List V} (e : H a = some (.lst xs)) : Vl T H (.ref a) := ⟨_, .base (.lst e), .inr (.inr (.inr (.inr (.inr (.inl rfl)))))⟩
theorem Vl.tup {T : Tx K mg} {H : Hp} {a : Addr} {xs : List V} (e : H a = some (.tup xs)) : Vl T H (.ref a) := ⟨_, .base (.tup e), .inr (.inr (.inr (.inr (.inr (.inr (.inl rfl))))))⟩
theorem kxy : ¬ (("x" : Str) = "y") := by decide +kernel
theorem kxa : ¬ (("x" : Str) = "area") := by decide +kernel
theorem kya : ¬ (("y" : Str) = "area") := by decide +kernel
def flds (x y a : Int) : List (Str × V) := [("x", .int x), ("y", .int y), ("area", .int a)]
/-- a Place (x, y, a) at p -/
def PlAt (T : Tx K mg) (H : Hp) (p : Addr) (x y a : Int) : Prop := ∃ dx, H p = some (.ins T.C_Place dx (flds x y a))
theorem PlAt.mono {T : Tx K mg} {H H' : Hp} {p : Addr} {x y a : Int} (s : Same H H') (h : PlAt T H p x y a) : PlAt T H' p x y a := let ⟨dx, e⟩ := h; ⟨dx, s _ _ e⟩
theorem PlAt.ty {T : Tx K mg} {H : Hp} {p : Addr} {x y a : Int} (h : PlAt T H p x y a) : TyX K H (.ref p) (.ref T.C_Place) := let ⟨_, e⟩ := h; .base (.ins e T.cl_Place T.ca_Place T.cn T.ct T.cm_Place)
theorem PlAt.vl {T : Tx K mg} {H : Hp} {p : Addr} {x y a : Int} (h : PlAt T H p x y a) : Vl T H (.ref p) := ⟨_, h.ty, .inl rfl⟩
theorem Same.laid {H : Hp} {p : Addr} {o : HO} (h : H p = none) : Same H (upd H p o) := fun b u e => by rw [upd_ne (ne_of_none e h)]; exact e
end
end AW

set_option linter.all false
set_option maxRecDepth 100000
set_option maxHeartbeats 4000000
namespace AW
open PySem PySem.Spec PyProof.Rows L2
section
variable {P : Program} {w : World} {K : PySem.W.Frag} {mg : Str → Option Value} {base : Heap}
/-- what an own error of a base def lets out, by the def's own wish -/
theorem passE {X : Cx} {E : XK} {E₁ : Value → Shared → Prop} (hs : X.stack = X.env :: X.outer := by rfl) (hf : X.env.frame = some X.env.locals := by rfl) (hex : X.ex = [] := by rfl)
    (hx : X.xe = fun e s' => wpAny (model X.prog X.w) X.A (leaving X.env e) (fun _ s'' => L2.CX X.prog X.w X.outer X.H_0 X.s_0 E e s'') E₁ s' := by rfl) : Passes (L2.CX X.prog X.w) X E :=
  passes_call (takes_of hs hf hex hx) (fun _ _ _ _ h => h)
def sp_is_integer (T : Tx K mg) : Sp := fun vs H Q _ => ∃ v, vs = [v] ∧ Vl T H v ∧ Q (.bl (intV v)) H
theorem ok_is_integer (T : Tx K mg) : FnOk P w K mg base (L2.CX P w) 1 T.a_is_integer T.d_is_integer P_is_integer (sp_is_integer T) := by
  refine T.F_is_integer.okX sc_is_integer (fun vs H Q E h => ?_) (fun cdv A outer s H vs Q E hr h => ?_)
  · obtain ⟨v, rfl, _⟩ := h
    rfl
  · obtain ⟨v, rfl, ⟨t, ty, hv⟩, k⟩ := h
    refine ⟨_, pss_one (ps_ret (pe_and (pe_callB call_isi rfl T.n_isinstance (by decide +kernel) (pa_cons (pv 0) (pa_cons (pe_bltn (v := .ty "int") rfl T.n_int (by decide +kernel) rfl) pa_nil)))
      (pe_one (pe_not (pe_callB call_isi rfl T.n_isinstance (by decide +kernel) (pa_cons (pv 0) (pa_cons (pe_bltn (v := .ty "bool") rfl T.n_bool (by decide +kernel) rfl) pa_nil))))))), ?_⟩
    refine ⟨_, rfl, v, .ty "int", t, _, isI t, rfl, .ty _, ty, kit_int T hv, _, rfl, ?_⟩
    cases hi : isI t with
    | false =>
      refine iteF ?_
      have e := intV_of ty
      rw [hi] at e
      have e' : intV v = false := by rw [← e] <;> rfl
      rw [e'] at k
      exact k
    | true =>
      refine iteT ⟨_, rfl, v, .ty "bool", t, _, isB t, rfl, .ty _, ty, kit_bool T hv, _, rfl, ?_⟩
      have e := intV_of ty
      rw [hi, Bool.true_and] at e
      rw [e]
      exact k
/-- an error's own __init__ -/
def sp_einit (C : Addr) (f : Str) : Sp := fun vs H Q _ => ∃ (a : Addr) (v : V), vs = [.ref a, v] ∧ H a = some (exo a C none) ∧ ∀ dx, H dx = none → dx ≠ a → Q .non (upd (upd H dx (exd dx [(f, v)])) a (exo a C (some dx)))
theorem ok_BadNumber_init (T : Tx K mg) : FnOk P w K mg base (L2.CX P w) 1 T.a_BadNumber_init T.d_BadNumber_init P_BadNumber_init (sp_einit T.C_BadNumber "value") := by
  refine T.F_BadNumber_init.okX sc_BadNumber_init (fun vs H Q E h => ?_) (fun cdv A outer s H vs Q E hr h => ?_)
  · obtain ⟨a, v, rfl, _⟩ := h
    rfl
  · obtain ⟨a, v, rfl, ha, k⟩ := h
    refine ⟨_, pss_one (ps_ost (pv 0) (pv 1)), ?_⟩
    exact ⟨_, rfl, _, rfl, a, T.C_BadNumber, rfl, T.X_BadNumber, T.na_BadNumber_value, .inl ⟨ha, fun dx hd ne => k dx hd ne⟩⟩
theorem ok_BadPlace_init (T : Tx K mg) : FnOk P w K mg base (L2.CX P w) 1 T.a_BadPlace_init T.d_BadPlace_init P_BadPlace_init (sp_einit T.C_BadPlace "value") := by
  refine T.F_BadPlace_init.okX sc_BadPlace_init (fun vs H Q E h => ?_) (fun cdv A outer s H vs Q E hr h => ?_)
  · obtain ⟨a, v, rfl, _⟩ := h
    rfl
  · obtain ⟨a, v, rfl, ha, k⟩ := h
    refine ⟨_, pss_one (ps_ost (pv 0) (pv 1)), ?_⟩
    exact ⟨_, rfl, _, rfl, a, T.C_BadPlace, rfl, T.X_BadPlace, T.na_BadPlace_value, .inl ⟨ha, fun dx hd ne => k dx hd ne⟩⟩
/-- the wish for an error with one field: behind it the heap has its dict -/
def Err (H : Hp) (E : XK) (C : Addr) (f : Str) (v : V) : Prop := ∀ (d : Addr) (H' : Hp), Same H H' → H d = none → H' d = some (.xd [(f, v)]) → E (.ref C) (some d) H'
theorem Err.mono {H H1 : Hp} {E : XK} {C : Addr} {f : Str} {v : V} (s : Same H H1) (e : Err H E C f v) : Err H1 E C f v := fun d H' s' n h => e d H' (s.trans s') (s.free n) h
/-- what raise C(v) asks, by the init's promise -/
theorem mk_einit {C : Addr} {f : Str} {σ : L2.St} {H : Hp} {Q : XK} {ta : TA} {v : V} (h : ta σ H fun vs H1 => vs = [v] ∧ H1 = H) (k : Err H Q C f v) (hta : ∀ (Q Q' : List V → Hp → Prop), (∀ vs H, Q vs H → Q' vs H) → ta σ H Q → ta σ H Q') : tMkO C (sp_einit C f) [] ta σ H Q := by
  refine hta _ _ ?_ h
  rintro vs H1 ⟨rfl, rfl⟩
  refine ⟨by show 1 ≤ 1000; decide, fun a ha => ⟨a, v, rfl, upd_same, fun dx hd ne => ⟨rfl, dx, [(f, v)], upd_same, ?_, ?_, ?_⟩⟩⟩
  · rw [upd_ne ne, upd_same]
  · rw [upd_ne ne] at hd; exact hd
  · have hdx : H1 dx = none := by rw [upd_ne ne] at hd; exact hd
    refine k dx _ (fun b o e => ?_) hdx upd_same
    have nb : b ≠ dx := ne_of_none e hdx
    have na : b ≠ a := ne_of_none e ha
    rw [upd_ne nb, del_ne na, upd_ne na, upd_ne nb, upd_ne na]
    exact e
def sp_check_integer (T : Tx K mg) : Sp := fun vs H Q E => ∃ v, vs = [v] ∧ Vl T H v ∧ (intV v = true → Q .non H) ∧ (intV v = false → Err H E T.C_BadNumber "value" v)
theorem ok_check_integer (T : Tx K mg) : FnOk P w K mg base (L2.CX P w) 3 T.a_check_integer T.d_check_integer P_check_integer (sp_check_integer T) := by
  have G1 : FnOk P w K mg base (L2.CX P w) 1 _ _ _ _ := ok_is_integer T
  have G2 : FnOk P w K mg base (L2.CX P w) 1 _ _ _ _ := ok_BadNumber_init T
  refine T.F_check_integer.okX sc_check_integer (fun vs H Q E h => ?_) (fun cdv A outer s H vs Q E hr h => ?_)
  · obtain ⟨v, rfl, _⟩ := h
    rfl
  · obtain ⟨v, rfl, hv, kt, kf⟩ := h
    refine ⟨_, pss_one (ps_if (pt_not (pt_val (pe_call G1 (hr.mono (by decide)) rfl T.g_is_integer T.F_is_integer.kp T.b_is_integer .nil passL (pa_cons (pv 0) pa_nil))))
      (pss_one (ps_raise rfl (takes_of rfl rfl rfl rfl) (pmk_oex T.X_BadNumber T.ei_BadNumber T.et_BadNumber G2 hr T.b_BadNumber_init .nil passL rfl T.g_C_BadNumber (by exact pa_cons (pv 0) pa_nil)))) pss_nil), ?_⟩
    refine ⟨_, rfl, v, rfl, hv, _, rfl, ?_⟩
    cases hi : intV v with
    | true => exact iteF (kt hi)
    | false =>
      refine iteT ?_
      exact mk_einit (v := v) ⟨_, rfl, rfl, rfl⟩ (kf hi) (fun Q Q' h1 ⟨x, e, h2⟩ => ⟨x, e, h1 _ _ h2⟩)
end
end AW

set_option linter.all false
set_option maxRecDepth 100000
set_option maxHeartbeats 4000000
namespace AW
open PySem PySem.Spec PyProof.Rows L2
theorem find_first {α : Type} {p : α → Bool} : ∀ {xs : List α} {i : Nat} {v : α}, xs[i]? = some v → p v = true → (∀ (j : Nat) u, j < i → xs[j]? = some u → p u = false) → xs.find? p = some v
  | [], _, _, h, _, _ => by simp at h
  | a :: r, 0, v, h, hp, _ => by
    simp at h; subst h
    simp [List.find?, hp]
  | a :: r, i + 1, v, h, hp, hq => by
    have ha : p a = false := hq 0 a (Nat.succ_pos _) (by simp)
    simp only [List.find?, ha]
    exact find_first (by simpa using h) hp fun j u hj hu => hq (j + 1) u (Nat.succ_lt_succ hj) (by simpa using hu)
section
variable {P : Program} {w : World} {K : PySem.W.Frag} {mg : Str → Option Value} {base : Heap}
def sp_Place_init (T : Tx K mg) : Sp := fun vs H Q E => ∃ (p dx : Addr) (vx vy va : V), vs = [.ref p, vx, vy, va] ∧ H p = some (.ins T.C_Place dx []) ∧ Vl T H vx ∧ Vl T H vy ∧ Vl T H va ∧
  ((∃ x y a, vx = .int x ∧ vy = .int y ∧ va = .int a ∧ ∀ H' : Hp, (∀ b o, b ≠ p → H b = some o → H' b = some o) → H' p = some (.ins T.C_Place dx (flds x y a)) → Q .non H') ∨
   (∃ v, [vx, vy, va].find? (fun v => !intV v) = some v ∧ Err H E T.C_BadNumber "value" v))
theorem putF3 (x y a : Int) : putF "area" (.int a) (putF "y" (.int y) (putF "x" (.int x) [])) = flds x y a := by
  simp [putF, flds, kxy, kxa, kya]
theorem ok_Place_init (T : Tx K mg) : FnOk P w K mg base (L2.CX P w) 4 T.a_Place_init T.d_Place_init P_Place_init (sp_Place_init T) := by
  have G1 : FnOk P w K mg base (L2.CX P w) 3 _ _ _ _ := ok_check_integer T
  refine T.F_Place_init.okX sc_Place_init (fun vs H Q E h => ?_) (fun cdv A outer s H vs Q E hr h => ?_)
  · obtain ⟨p, dx, vx, vy, va, rfl, _⟩ := h
    rfl
  · obtain ⟨p, dx, vx, vy, va, rfl, hp, hx, hy, ha, k⟩ := h
    refine ⟨_, pss_cons (ps_for (passes_of rfl) rfl (pi_tup (pe_tup (pa_cons (pv 1) (pa_cons (pv 2) (pa_cons (pv 3) pa_nil))))) (pg_name (i := 4) sc_Place_init.nd rfl (.inl rfl))
        (pss_one (ps_expr (pe_call G1 hr rfl T.g_check_integer T.F_check_integer.kp T.b_check_integer .nil (passE (E := E)) (pa_cons (pv 4) pa_nil)))))
      (pss_cons (ps_fld (pv 0) (pv 1) rfl) (pss_cons (ps_fld (pv 0) (pv 2) rfl) (pss_one (ps_fld (pv 0) (pv 3) rfl)))), ?_⟩
    refine ⟨_, rfl, _, rfl, _, rfl, (by show 3 ≤ sizeLine; decide), fun t ht => ⟨t, rfl, ⟨_, SqT.of upd_same⟩, ?_⟩⟩
    have s0 : Same H (upd H t (.tup [vx, vy, va])) := Same.laid ht
    refine for_tup (K := K) (a := t) (xs := [vx, vy, va]) (fun i σ H1 => (∃ v, σ = [some (.ref p), some vx, some vy, some va, v]) ∧ H1 = upd H t (.tup [vx, vy, va]) ∧ ∀ (j : Nat) u, j < i → [vx, vy, va][j]? = some u → (!intV u) = false)
      ⟨⟨none, rfl⟩, rfl, fun j u hj => absurd hj (Nat.not_lt_zero _)⟩ (fun i σ H1 _ ⟨_, e, _⟩ => by rw [e]; exact SqT.of upd_same) ?_ ?_
    · rintro i v σ H1 hi ⟨⟨v0, rfl⟩, rfl, hj⟩
      have hv : Vl T H v := by
        match i, hi with
        | 0, hi => simp at hi; subst hi; exact hx
        | 1, hi => simp at hi; subst hi; exact hy
        | 2, hi => simp at hi; subst hi; exact ha
      refine ⟨_, rfl, v, rfl, hv.mono s0, fun hi' => ⟨⟨_, rfl⟩, rfl, fun j u hlt hu => ?_⟩, fun hi' => ?_⟩
      · rcases Nat.lt_succ_iff_lt_or_eq.mp hlt with h | h
        · exact hj j u h hu
        · subst h; rw [hi] at hu; cases hu; rw [hi']; rfl
      · have hf := find_first (p := fun v => !intV v) hi (by rw [hi']; rfl) hj
        rcases k with ⟨x, y, a, rfl, rfl, rfl, _⟩ | ⟨v', h1, h2⟩
        · simp [List.find?, intV] at hf
        · rw [hf] at h1; cases h1
          exact h2.mono s0
    · rintro σ H1 ⟨⟨v0, rfl⟩, rfl, hj⟩
      rcases k with ⟨x, y, a, rfl, rfl, rfl, k⟩ | ⟨v', h1, h2⟩
      · have np : p ≠ t := ne_of_none hp ht
        refine ⟨_, rfl, _, rfl, p, T.C_Place, dx, [], rfl, (by rw [upd_ne np]; exact hp), T.cl_Place, T.na_Place_x, (by decide), ?_⟩
        refine ⟨_, rfl, _, rfl, p, T.C_Place, dx, _, rfl, upd_same, T.cl_Place, T.na_Place_y, (by show 1 < 1000; decide), ?_⟩
        refine ⟨_, rfl, _, rfl, p, T.C_Place, dx, _, rfl, upd_same, T.cl_Place, T.na_Place_area, (by have h1 := length_putF "y" (V.int y) (putF "x" (V.int x) []); have h2 := length_putF "x" (V.int x) []; have h3 : ([] : List (Str × V)).length = 0 := rfl; omega), ?_⟩
        refine k _ (fun b o nb e => ?_) ?_
        · rw [upd_ne nb, upd_ne nb, upd_ne nb, upd_ne (ne_of_none e ht)]
          exact e
        · rw [upd_same, putF3]
      · have hm := List.find?_some h1
        have hmem := List.mem_of_find?_eq_some h1
        obtain ⟨j, hj1, hj2⟩ := List.getElem_of_mem hmem
        have := hj j v' hj1 (by rw [List.getElem?_eq_getElem hj1, hj2])
        rw [this] at hm
        cases hm
end
end AW

set_option linter.all false
set_option maxRecDepth 100000
set_option maxHeartbeats 4000000
namespace AW
open PySem PySem.Spec PyProof.Rows L2
def Bd (k : Nat) (i : Int) : Prop := i.natAbs < 2 ^ k
theorem Bd.mono {k m : Nat} {i : Int} (h : Bd k i) (l : k ≤ m) : Bd m i := Nat.lt_of_lt_of_le h (Nat.pow_le_pow_right (by decide) l)
theorem Bd.neg {k : Nat} {i : Int} (h : Bd k i) : Bd k (-i) := by unfold Bd; rw [Int.natAbs_neg]; exact h
theorem Bd.add {k : Nat} {i j : Int} (h : Bd k i) (g : Bd k j) : Bd (k + 1) (i + j) := by
  unfold Bd at *
  rw [Nat.pow_succ]
  omega
theorem Bd.sub {k : Nat} {i j : Int} (h : Bd k i) (g : Bd k j) : Bd (k + 1) (i - j) := by
  unfold Bd at *
  rw [Nat.pow_succ]
  omega
theorem Bd.mul {k m : Nat} {i j : Int} (h : Bd k i) (g : Bd m j) : Bd (k + m) (i * j) := wide_lt h g
abbrev BIG : Nat := 400000
theorem big_mul {i j : Int} (h : Bd BIG i) (g : Bd BIG j) : CMulW i j := wide_mul h g (by decide) (by decide) (by decide)
section
variable {P : Program} {w : World} {K : PySem.W.Frag} {mg : Str → Option Value} {base : Heap}
/-- v is no Place -/
def NoP (T : Tx K mg) (H : Hp) (v : V) : Prop := ∃ t, TyX K H v t ∧ TyT T t ∧ isP T t = false
theorem NoP.vl {T : Tx K mg} {H : Hp} {v : V} (h : NoP T H v) : Vl T H v := let ⟨t, a, b, _⟩ := h; ⟨t, a, b⟩
theorem NoP.mono {T : Tx K mg} {H H' : Hp} {v : V} (s : Same H H') (h : NoP T H v) : NoP T H' v := let ⟨t, a, b, c⟩ := h; ⟨t, TyX.mono s a, b, c⟩
/-- isinstance(v, Place): no -/
theorem kit_no (T : Tx K mg) {t : Value} (ht : TyT T t) (e : isP T t = false) : PySem.W.kitOne K t (.ref T.C_Place) = some false := by rw [kit_place T ht, e]
def sp_check_place (T : Tx K mg) : Sp := fun vs H Q E => ∃ v, vs = [v] ∧ ((∃ q x y a, v = .ref q ∧ PlAt T H q x y a ∧ Q .non H) ∨ (NoP T H v ∧ Err H E T.C_BadPlace "value" v))
theorem ok_check_place (T : Tx K mg) : FnOk P w K mg base (L2.CX P w) 3 T.a_check_place T.d_check_place P_check_place (sp_check_place T) := by
  have G2 : FnOk P w K mg base (L2.CX P w) 1 _ _ _ _ := ok_BadPlace_init T
  refine T.F_check_place.okX sc_check_place (fun vs H Q E h => ?_) (fun cdv A outer s H vs Q E hr h => ?_)
  · obtain ⟨v, rfl, _⟩ := h
    rfl
  · obtain ⟨v, rfl, k⟩ := h
    refine ⟨_, pss_one (ps_if (pt_not (pt_val (pe_callB call_isi rfl T.n_isinstance (by decide +kernel) (pa_cons (pv 0) (pa_cons (pe_glob (v := .ref T.C_Place) rfl T.g_C_Place rfl) pa_nil)))))
      (pss_one (ps_raise rfl (takes_of rfl rfl rfl rfl) (pmk_oex T.X_BadPlace T.ei_BadPlace T.et_BadPlace G2 (hr.mono (by decide)) T.b_BadPlace_init .nil passL rfl T.g_C_BadPlace (by exact pa_cons (pv 0) pa_nil)))) pss_nil), ?_⟩
    rcases k with ⟨q, x', y', a', rfl, hq, k⟩ | ⟨⟨t, ty, ht, e⟩, k⟩
    · exact ⟨_, rfl, _, _, _, _, true, rfl, .own _, hq.ty, kit_self, _, rfl, iteF k⟩
    · refine ⟨_, rfl, _, _, _, _, false, rfl, .own _, ty, kit_no T ht e, _, rfl, iteT ?_⟩
      exact mk_einit (v := v) ⟨_, rfl, rfl, rfl⟩ k (fun Q Q' h1 ⟨x, e, h2⟩ => ⟨x, e, h1 _ _ h2⟩)
end
end AW

set_option linter.all false
set_option maxRecDepth 100000
set_option maxHeartbeats 4000000
namespace AW
open PySem PySem.Spec PyProof.Rows L2
variable [Tbs]
theorem Bd.add2 {k m : Nat} {i j : Int} (h : Bd k i) (g : Bd m j) : Bd (k + m + 1) (i + j) := Bd.add (h.mono (Nat.le_add_right k m)) (g.mono (Nat.le_add_left m k))
theorem Bd.sub2 {k m : Nat} {i j : Int} (h : Bd k i) (g : Bd m j) : Bd (k + m + 1) (i - j) := Bd.sub (h.mono (Nat.le_add_right k m)) (g.mono (Nat.le_add_left m k))
theorem Bd.fdiv {k : Nat} {i j : Int} (h : Bd k i) : Bd k (i.fdiv j) := by
  unfold Bd at *
  have : (i.fdiv j).natAbs ≤ i.natAbs := Int.natAbs_fdiv_le_natAbs i j
  omega
theorem Bd.lit {i : Int} (k : Nat) (h : decide (i.natAbs < 2 ^ k) = true) : Bd k i := by unfold Bd; exact of_decide_eq_true h
theorem Bd.of_le {k : Nat} {i n : Int} (h0 : -n ≤ i) (h1 : i ≤ n) (h : Bd k n) : Bd k i := by unfold Bd at *; omega
theorem cmc {i j : Int} (h : Bd BIG i) (g : Bd BIG j) : CMulW i j := big_mul h g
section
variable {P : Program} {w : World} {K : PySem.W.Frag} {mg : Str → Option Value} {base : Heap} {E E' : XK} {e : EW} {ρ : List (Option D)} {B : Int} {k : KD} {κ : KS} {ta tb : TE} {t : TA}
def pl (T : Tx K mg) (x y a : Int) : D := .ins T.C_Place ["x", "y", "area"] [.int x, .int y, .int a]
theorem Rep.pl {T : Tx K mg} {G : Hp} {x y a : Int} {v : V} (h : Rep K G B (AW.pl T x y a) v) : ∃ p, v = .ref p ∧ PlAt T G p x y a := by
  obtain ⟨p, dx, vs, rfl, hp, hl, hr⟩ := h
  obtain ⟨_, _, rfl, rfl, _, _, rfl, rfl, _, _, rfl, rfl, rfl⟩ := hr
  exact ⟨p, rfl, dx, hp⟩
theorem PlAt.sub {T : Tx K mg} {G H : Hp} {x y a : Int} {p : Addr} (s : Sub G H) (h : PlAt T G p x y a) : PlAt T H p x y a := let ⟨dx, e⟩ := h; ⟨dx, s _ _ e⟩
theorem we_fx (T : Tx K mg) (h : We K E e ta ρ B fun d B1 => ∃ x y a, d = pl T x y a ∧ k (.int x) B1) : We K E e (tFld K ta "x") ρ B k :=
  we_fld (h.imp fun d B1 ⟨x, y, a, ed, hk⟩ => ⟨_, _, _, .int x, ed, T.cl_Place, T.na_Place_x, by simp [List.lookup], hk⟩)
theorem we_fy (T : Tx K mg) (h : We K E e ta ρ B fun d B1 => ∃ x y a, d = pl T x y a ∧ k (.int y) B1) : We K E e (tFld K ta "y") ρ B k :=
  we_fld (h.imp fun d B1 ⟨x, y, a, ed, hk⟩ => ⟨_, _, _, .int y, ed, T.cl_Place, T.na_Place_y, by
    have h1 : (("y" : Str) == "x") = false := by decide +kernel
    simp [List.lookup, h1], hk⟩)
theorem we_fa (T : Tx K mg) (h : We K E e ta ρ B fun d B1 => ∃ x y a, d = pl T x y a ∧ k (.int a) B1) : We K E e (tFld K ta "area") ρ B k :=
  we_fld (h.imp fun d B1 ⟨x, y, a, ed, hk⟩ => ⟨_, _, _, .int a, ed, T.cl_Place, T.na_Place_area, by
    have h1 : (("area" : Str) == "x") = false := by decide +kernel
    have h2 : (("area" : Str) == "y") = false := by decide +kernel
    simp [List.lookup, h1, h2], hk⟩)
def core : D → D
  | .at_ _ d => core d
  | .tb d => core d
  | d => d
theorem Rep.core {G : Hp} : ∀ {d : D} {v : V}, Rep K G B d v → Rep K G B (AW.core d) v
  | .at_ _ d, _, ⟨_, h⟩ => Rep.core (d := d) h
  | .tb d, _, ⟨_, h⟩ => Rep.core (d := d) h
  | .non, _, h => h
  | .bl _, _, h => h
  | .int _, _, h => h
  | .str _, _, h => h
  | .tup _, _, h => h
  | .lst _, _, h => h
  | .ins _ _ _, _, h => h
  | .pen _ _, _, h => h
  | .scr _, _, h => h
  | .val _, _, h => h
  | .lam _ _, _, h => h
  | .edk, _, h => h
  | .dk _ _, _, h => h
  | .kt _, _, h => h
  | .dt _ _ _, _, h => h
/-- no object of a class of one's own -/
def plainD : D → Bool
  | .ins _ _ _ => false
  | .pen _ _ => false
  | .scr _ => false
  | .val _ => false
  | .lam _ _ => false
  | .dk _ _ => false
  | .kt _ => false
  | .dt _ _ _ => false
  | .at_ _ d => plainD d
  | .tb d => plainD d
  | _ => true
theorem tyx_tup {K : PySem.W.Frag} {H : Hp} {a : Addr} {xs : List V} (h : SqT K H a xs) : TyX K H (.ref a) (.type "tuple") := by
  rcases h with (h | ⟨o, h⟩) | ⟨o, its, n, hk, hc, _⟩
  · exact .base (.tup h)
  · exact .fTuple h
  · exact .kTuple hk hc
theorem Rep.nop {T : Tx K mg} {G H : Hp} (s : Sub G H) : ∀ {d : D} {v : V}, Rep K G B d v → plainD d = true → NoP T H v
  | .non, _, h, _ => by rw [show _ = _ from h]; exact ⟨_, .base .non, .inr (.inl rfl), rfl⟩
  | .bl b, _, h, _ => by rw [show _ = _ from h]; exact ⟨_, .base (.bl b), .inr (.inr (.inl rfl)), rfl⟩
  | .int i, _, h, _ => by rw [show _ = _ from h]; exact ⟨_, .base (.int i), .inr (.inr (.inr (.inl rfl))), rfl⟩
  | .str i, _, h, _ => by rw [show _ = _ from h]; exact ⟨_, .base (.str i), .inr (.inr (.inr (.inr (.inl rfl)))), rfl⟩
  | .lst _, _, ⟨a, vs, e, h, hr⟩, _ => by rw [e]; exact ⟨_, .base (.lst (s _ _ h)), .inr (.inr (.inr (.inr (.inr (.inl rfl))))), rfl⟩
  | .tup _, _, ⟨a, vs, e, h, hr⟩, _ => by rw [e]; exact ⟨_, tyx_tup ((Le.of_sub (B := B) (B' := B) s (Int.le_refl _)).seqT h), .inr (.inr (.inr (.inr (.inr (.inr (.inl rfl)))))), rfl⟩
  | .ins _ _ _, _, _, o => nomatch o
  | .pen _ _, _, _, o => nomatch o
  | .scr _, _, _, o => nomatch o
  | .val _, _, _, o => nomatch o
  | .lam _ _, _, _, o => nomatch o
  | .dk _ _, _, _, o => nomatch o
  | .kt _, _, _, o => nomatch o
  | .dt _ _ _, _, _, o => nomatch o
  | .at_ _ d, _, ⟨_, h⟩, o => Rep.nop s (d := d) h o
  | .tb d, _, ⟨_, h⟩, o => Rep.nop s (d := d) h o
  | .edk, _, ⟨a, e, h⟩, _ => by rw [e]; exact ⟨_, .base (.dK (s _ _ h)), .inr (.inr (.inr (.inr (.inr (.inr (.inr rfl)))))), rfl⟩
/-- a wish for an error of one field -/
theorem Err.ofX {H G : Hp} {C : Addr} {f : Str} {d : D} {v : V} (s : Sub G H) (r : Rep K G B d v) (x : XOk K E e G H B) (h : e C (some ([f], [d])) B) : Err H E C f v := fun dx H' ss nd hd => by
  have e1 : Ext G H B G H' B := ⟨Le.refl _ _, fun a o z => ss _ _ (s _ _ z), fun a o z n _ => ⟨ss _ _ z, n⟩⟩
  exact x C _ B G H' h e1 dx [v] hd rfl ⟨v, [], rfl, r, rfl⟩
def pr_check_place (T : Tx K mg) : Pr := fun ds B k e => ∃ d, ds = [d] ∧ ((∃ x y a, core d = pl T x y a ∧ k .non B) ∨ (plainD d = true ∧ e T.C_BadPlace (some (["value"], [d])) B))
theorem okD_check_place (T : Tx K mg) : FnOk P w K mg base (L2.CX P w) 3 T.a_check_place T.d_check_place P_check_place (spD K (pr_check_place T)) :=
  (ok_check_place T).imp fun vs H Q E ⟨G, ds, B, k, e, hs, hr, ⟨d, ed, h⟩, hk, hx⟩ => by
    subst ed
    obtain ⟨v, _, rfl, rv, rfl⟩ := hr
    refine ⟨v, rfl, ?_⟩
    rcases h with ⟨x, y, a, ec, h⟩ | ⟨h1, h2⟩
    · have rc := rv.core
      rw [ec] at rc
      obtain ⟨p, rfl, hp⟩ := rc.pl
      exact .inl ⟨p, x, y, a, rfl, hp.sub hs, hk _ _ _ _ _ h (Ext.refl hs) rfl⟩
    · exact .inr ⟨rv.nop hs h1, Err.ofX hs rv hx h2⟩
def intD : D → Bool
  | .int _ => true
  | .val v => AW.intV v
  | .at_ _ d => intD d
  | .tb d => intD d
  | _ => false
theorem Rep.intV {G : Hp} : ∀ {d : D} {v : V}, Rep K G B d v → AW.intV v = intD d
  | .non, _, h => by rw [show _ = _ from h]; rfl
  | .bl b, _, h => by rw [show _ = _ from h]; rfl
  | .int i, _, h => by rw [show _ = _ from h]; rfl
  | .str i, _, h => by rw [show _ = _ from h]; rfl
  | .lst _, _, ⟨a, vs, e, h, hr⟩ => by rw [e]; rfl
  | .tup _, _, ⟨a, vs, e, h, hr⟩ => by rw [e]; rfl
  | .ins _ _ _, _, ⟨a, dx, vs, e, _⟩ => by rw [e]; rfl
  | .pen _ _, _, ⟨_, a, _, _, _, _, e, _⟩ => by rw [e]; rfl
  | .scr _, _, ⟨_, a, e, _⟩ => by rw [e]; rfl
  | .lam _ _, _, ⟨f, d, e, _⟩ => by rw [e]; rfl
  | .dk _ _, _, ⟨a, _, e, _⟩ => by rw [e]; rfl
  | .kt _, _, ⟨a, e, _⟩ => by rw [e]; rfl
  | .dt _ _ _, _, ⟨a, _, e, _⟩ => by rw [e]; rfl
  | .at_ _ d, _, ⟨_, h⟩ => Rep.intV (d := d) h
  | .tb d, _, ⟨_, h⟩ => Rep.intV (d := d) h
  | .edk, _, ⟨a, e, _⟩ => by rw [e]; rfl
  | .val _, _, h => by rw [show _ = _ from h]; rfl
def plD (T : Tx K mg) (d : D) : Prop := plainD d = true ∨ ∃ x y a, core d = pl T x y a
theorem Rep.vl {T : Tx K mg} {G H : Hp} {d : D} {v : V} (s : Sub G H) (r : Rep K G B d v) (h : plD T d) : Vl T H v := by
  rcases h with h | ⟨x, y, a, ec⟩
  · exact (r.nop s h).vl
  · have rc := r.core
    rw [ec] at rc
    obtain ⟨p, rfl, hp⟩ := rc.pl
    exact (hp.sub s).vl
def pr_is_integer (T : Tx K mg) : Pr := fun ds B k e => ∃ d, ds = [d] ∧ plD T d ∧ k (.bl (intD d)) B
theorem okD_is_integer (T : Tx K mg) : FnOk P w K mg base (L2.CX P w) 1 T.a_is_integer T.d_is_integer P_is_integer (spD K (pr_is_integer T)) :=
  (ok_is_integer T).imp fun vs H Q E ⟨G, ds, B, k, e, hs, hr, ⟨d, ed, hd, h⟩, hk, hx⟩ => by
    subst ed
    obtain ⟨v, _, rfl, rv, rfl⟩ := hr
    refine ⟨v, rfl, rv.vl hs hd, ?_⟩
    rw [rv.intV]
    exact hk _ _ _ _ _ h (Ext.refl hs) rfl
def pr_Place_init : List D → Int → (List D → Int → Prop) → EW → Prop := fun ds B k e => ∃ x y a : Int, ds = [.int x, .int y, .int a] ∧ k [.int x, .int y, .int a] B
theorem okD_Place_init (T : Tx K mg) : FnOk P w K mg base (L2.CX P w) 4 T.a_Place_init T.d_Place_init P_Place_init (spI K T.C_Place ["x", "y", "area"] pr_Place_init) :=
  (ok_Place_init T).imp fun vs H Q E ⟨p, dx, ws, G, ds, B, k, e, ev, hp, gp, gd, ne, hd, hs, hr, ⟨x, y, a, ed, h⟩, hk, hx⟩ => by
    subst ed
    subst ev
    obtain ⟨_, _, rfl, rfl, _, _, rfl, rfl, _, _, rfl, rfl, rfl⟩ := hr
    refine ⟨p, dx, _, _, _, rfl, hp, .int _, .int _, .int _, .inl ⟨x, y, a, rfl, rfl, rfl, fun H' s z => ?_⟩⟩
    exact hk _ [.int x, .int y, .int a] B G H' h (Le.refl _ _) (fun b o q => s b o (ne_of_none q gp) (hs _ _ q)) (fun b o q n nb _ => ⟨s b o nb q, n⟩) gp z rfl ⟨_, _, rfl, rfl, _, _, rfl, rfl, _, _, rfl, rfl, rfl⟩
variable {pr : Pr}
theorem we_place (T : Tx K mg) (h : Wa K E e t ρ B fun ds B1 => ∃ x y a : Int, ds = [.int x, .int y, .int a] ∧ k (pl T x y a) B1) : We K E e (tMake T.C_Place (spI K T.C_Place ["x", "y", "area"] pr_Place_init) [] E' t) ρ B k :=
  we_make fun σ H G Q s en x q => h σ H G Q s en x fun ds vs B1 G1 H1 ⟨x, y, a, ed, hk⟩ e1 r1 => q ds vs B1 G1 H1 ⟨x, y, a, ed, hk⟩ e1 r1
/-- raise C(d), C with one field -/
theorem ws_raise1 {C : Addr} {f : Str} (h : Wa K E e t ρ B fun ds B1 => ∃ d, ds = [d] ∧ e C (some ([f], [d])) B1) : Ws K E e (fun _ σ H => tMkO C (sp_einit C f) [] t σ H fun cls d H' => E cls d H') ρ B κ := fun σ H G Dn s en x q =>
  h σ H G _ s en x fun ds vs B1 G1 H1 ⟨d, ed, he⟩ e1 r1 => by
    subst ed
    obtain ⟨v, _, rfl, rv, rfl⟩ := r1
    exact mk_einit (σ := σ) (ta := fun _ H Q => Q [v] H) ⟨rfl, rfl⟩ (Err.ofX e1.sub rv (x.ext e1) he) fun Q Q' h1 h2 => h1 _ _ h2
end
end AW

set_option linter.all false
set_option maxRecDepth 100000
set_option maxHeartbeats 4000000
namespace AW
open PySem PySem.Spec PyProof.Rows L2
abbrev kC : Key := Sum.inr "cells"
abbrev kS : Key := Sum.inr "mark"
abbrev kR : Key := Sum.inr "rest"
theorem kCS : ¬ (kC = kS) := by decide +kernel
theorem kCR : ¬ (kC = kR) := by decide +kernel
theorem kSR : ¬ (kS = kR) := by decide +kernel
theorem kRS : ¬ (kR = kS) := by decide +kernel
def penD (c : Addr) (s r : Int) : List (Key × V) := [(kC, .ref c), (kS, .int s), (kR, .int r)]
theorem pen_c (c : Addr) (s r : Int) : valV (penD c s r) kC = some (.ref c) := valV_pos rfl
theorem pen_s (c : Addr) (s r : Int) : valV (penD c s r) kS = some (.int s) := (valV_neg kCS).trans (valV_pos rfl)
theorem pen_r (c : Addr) (s r : Int) : valV (penD c s r) kR = some (.int r) := (valV_neg kCR).trans ((valV_neg kSR).trans (valV_pos rfl))
theorem pen_ps (c : Addr) (s r z : Int) : putK (penD c s r) kS (.int z) = penD c z r := by
  unfold putK
  rw [if_pos (by rw [valV_any, pen_s]; rfl)]
  show [if kC = kS then (kC, V.int z) else (kC, V.ref c), if kS = kS then (kS, V.int z) else (kS, V.int s), if kR = kS then (kR, V.int z) else (kR, V.int r)] = penD c z r
  rw [if_neg kCS, if_pos rfl, if_neg kRS]
  rfl
theorem pen_pr (c : Addr) (s r z : Int) : putK (penD c s r) kR (.int z) = penD c s z := by
  unfold putK
  rw [if_pos (by rw [valV_any, pen_r]; rfl)]
  show [if kC = kR then (kC, V.int z) else (kC, V.ref c), if kS = kR then (kS, V.int z) else (kS, V.int s), if kR = kR then (kR, V.int z) else (kR, V.int r)] = penD c s z
  rw [if_neg kCR, if_neg kSR, if_pos rfl]
  rfl
theorem pen_mk (c : Addr) (s r : Int) : mergeK [] [(kC, .ref c), (kS, .int s), (kR, .int r)] = penD c s r := by
  unfold mergeK
  show putK (putK (putK [] kC (.ref c)) kS (.int s)) kR (.int r) = penD c s r
  rw [L2.putK_new _ valV_nil]
  rw [L2.putK_new _ (show valV ([] ++ [(kC, V.ref c)]) kS = none from valV_neg kCS)]
  rw [L2.putK_new _ (show valV ([] ++ [(kC, V.ref c)] ++ [(kS, V.int s)]) kR = none from (valV_neg kCR).trans (valV_neg kSR))]
  rfl
/-- the pen at p: its cells, at most 63 ints; no more than B stops so far -/
structure Pen (H : Hp) (p : Addr) (B : Int) : Prop where
  at_ : ∃ (c : Addr) (ns : List Int) (s r : Int), H p = some (.dK (penD c s r)) ∧ H c = some (.lst (ns.map V.int)) ∧ ns.length ≤ 63 ∧ 0 ≤ s ∧ s ≤ B
theorem dg_c {H : Hp} {p c : Addr} {s r : Int} (e : H p = some (.dK (penD c s r))) : DGet H p (.str "cells") (some (.ref c)) := by
  have h := DGet.k (k := kC) e
  rw [pen_c] at h
  exact h
theorem dg_s {H : Hp} {p c : Addr} {s r : Int} (e : H p = some (.dK (penD c s r))) : DGet H p (.str "mark") (some (.int s)) := by
  have h := DGet.k (k := kS) e
  rw [pen_s] at h
  exact h
theorem dg_r {H : Hp} {p c : Addr} {s r : Int} (e : H p = some (.dK (penD c s r))) : DGet H p (.str "rest") (some (.int r)) := by
  have h := DGet.k (k := kR) e
  rw [pen_r] at h
  exact h
theorem dp_s {H : Hp} {p c : Addr} {s r z : Int} (e : H p = some (.dK (penD c s r))) : DPut H p (.str "mark") (.int z) (upd H p (.dK (penD c z r))) := by
  have h := DPut.k (k := kS) (v := .int z) e (by show 3 < sizeLine; decide)
  rw [pen_ps] at h
  exact h
theorem dp_r {H : Hp} {p c : Addr} {s r z : Int} (e : H p = some (.dK (penD c s r))) : DPut H p (.str "rest") (.int z) (upd H p (.dK (penD c s z))) := by
  have h := DPut.k (k := kR) (v := .int z) e (by show 3 < sizeLine; decide)
  rw [pen_pr] at h
  exact h
/-- all but the pen stays -/
structure But (p : Addr) (H H' : Hp) : Prop where
  st : ∀ b o, b ≠ p → H b = some o → H' b = some o
  cl : ∀ c s r, H p = some (.dK (penD c s r)) → ∃ s' r', H' p = some (.dK (penD c s' r'))
theorem But.refl {p : Addr} (H : Hp) : But p H H := ⟨fun _ _ _ h => h, fun _ s r h => ⟨s, r, h⟩⟩
theorem But.trans {p : Addr} {H H1 H2 : Hp} (a : But p H H1) (b : But p H1 H2) : But p H H2 :=
  ⟨fun c o n h => b.st c o n (a.st c o n h), fun c s r h => by
    obtain ⟨s1, r1, h1⟩ := a.cl c s r h
    exact b.cl c s1 r1 h1⟩
theorem But.of {p : Addr} {H H' : Hp} (s : Same H H') : But p H H' := ⟨fun b o _ h => s b o h, fun c z r h => ⟨z, r, s _ _ h⟩⟩
theorem penD_inj {c c' : Addr} {s r s' r' : Int} (h : penD c s r = penD c' s' r') : c = c' := by
  injection h with h1 _
  injection h1 with _ h2
  injection h2
theorem But.upd {p c : Addr} {z r z' r' : Int} {H H' : Hp} (s : But p H H') (e : H' p = some (.dK (penD c z r))) : But p H (upd H' p (.dK (penD c z' r'))) :=
  ⟨fun b u n h => by rw [upd_ne n]; exact s.st b u n h, fun c2 s2 r2 h => by
    obtain ⟨s3, r3, h3⟩ := s.cl c2 s2 r2 h
    rw [e] at h3
    injection h3 with h3
    injection h3 with h3
    rw [penD_inj h3] at *
    exact ⟨z', r', upd_same⟩⟩
theorem But.new {p q : Addr} {H H' : Hp} {o : HO} (s : But p H H') (h : H' q = none) : But p H (L2.upd H' q o) :=
  ⟨fun b u n e => by
    have e' := s.st b u n e
    rw [upd_ne (ne_of_none e' h)]
    exact e', fun c z r e => by
    obtain ⟨z1, r1, e1⟩ := s.cl c z r e
    exact ⟨z1, r1, by rw [upd_ne (ne_of_none e1 h)]; exact e1⟩⟩
theorem Pen.mono {H H' : Hp} {p : Addr} {B B' : Int} (h : Pen H p B) (l : B ≤ B') (s : Same H H') : Pen H' p B' := by
  obtain ⟨c, ns, z, r, e1, e2, h1, h2, h3⟩ := h.at_
  exact ⟨⟨c, ns, z, r, s _ _ e1, s _ _ e2, h1, h2, Int.le_trans h3 l⟩⟩
theorem Pen.le {H : Hp} {p : Addr} {B B' : Int} (h : Pen H p B) (l : B ≤ B') : Pen H p B' := h.mono l (Same.refl H)
theorem fmod_in {a b : Int} (h : 0 < b) : 0 ≤ a.fmod b ∧ a.fmod b < b := ⟨Int.fmod_nonneg_of_pos a h, Int.fmod_lt_of_pos a h⟩
section
variable {P : Program} {w : World} {K : PySem.W.Frag} {mg : Str → Option Value} {base : Heap}
def sp_l_begin (T : Tx K mg) : Sp := fun vs H Q E => ∃ (a : Addr) (ns : List Int), vs = [.ref a] ∧ SqL K H a (ns.map V.int) ∧ ns.length ≤ 63 ∧ ∀ p c H', Same H H' → H p = none → H c = none → c ≠ p → H' p = some (.dK (penD c 0 0)) → H' c = some (.lst (ns.map V.int)) → Q (.ref p) H'
theorem ok_l_begin (T : Tx K mg) : FnOk P w K mg base (L2.CX P w) 1 T.a_l_begin T.d_l_begin P_l_begin (sp_l_begin T) := by
  refine T.F_l_begin.okX sc_l_begin (fun vs H Q E h => ?_) (fun cdv A outer s H vs Q E hr h => ?_)
  · obtain ⟨a, ns, rfl, _⟩ := h
    rfl
  · obtain ⟨a, ns, rfl, hS, hlen, k⟩ := h
    refine ⟨_, pss_one (ps_ret (pe_disp (pps_cons pe_str (pe_callTy call_list_of rfl T.n_list (by decide +kernel) (pa_cons (pe_slice sl_list (pv 0) po_none (po_some pe_int)) pa_nil))
      (pps_cons pe_str pe_int (pps_cons pe_str pe_int pps_nil))) (by rfl) (by rfl) (fun z => by cases z) (by decide))), ?_⟩
    refine fun p np => ?_
    have s1 : Same H (upd H p (.dK [])) := Same.laid np
    refine ⟨_, rfl, _, rfl, a, _, rfl, s1.seq hS, fun q nq => ⟨q, _, rfl, .inl (.of upd_same), fun l nl => ?_⟩⟩
    have npq : p ≠ q := ne_of_none upd_same nq
    have nql : q ≠ l := ne_of_none upd_same nl
    have npl : p ≠ l := ne_of_none (by rw [upd_ne npq]; exact upd_same) nl
    refine ⟨by rw [upd_ne npl, upd_ne npq, upd_same], [(kC, .ref l), (kS, .int 0), (kR, .int 0)], rfl, (by show 3 ≤ 15; decide), ?_⟩
    have hcut : cutV (ns.map V.int) none (some 63) = ns.map V.int := by
      unfold cutV
      have e1 : HT.sIx (ns.map V.int).length 0 none = 0 := rfl
      have e2 : (ns.map V.int).length ≤ 63 := by rw [List.length_map]; exact hlen
      rw [e1]
      show ((ns.map V.int).drop 0).take _ = _
      rw [List.drop_zero, List.take_of_length_le]
      have e3 : HT.sIx (ns.map V.int).length (ns.map V.int).length (some 63) = (ns.map V.int).length := by
        simp [HT.sIx]
        omega
      rw [e3]
      omega
    have sF : Same H (upd (upd (upd (upd H p (.dK [])) q (.lst (cutV (ns.map V.int) none (some 63)))) l (.lst (cutV (ns.map V.int) none (some 63)))) p (.dK (mergeK [] [(kC, .ref l), (kS, .int 0), (kR, .int 0)]))) := fun b o e => by
      have nb : b ≠ p := ne_of_none e np
      have e1 : upd H p (.dK []) b = some o := by rw [upd_ne nb]; exact e
      have nq' : b ≠ q := ne_of_none e1 nq
      have e2 : upd (upd H p (.dK [])) q (.lst (cutV (ns.map V.int) none (some 63))) b = some o := by rw [upd_ne nq']; exact e1
      rw [upd_ne nb, upd_ne (ne_of_none e2 nl)]
      exact e2
    have nl0 : H l = none := by
      cases z : H l with
      | none => rfl
      | some u =>
        have z1 := s1 _ _ z
        have nql' : l ≠ q := fun w => by rw [w, nq] at z1; cases z1
        rw [upd_ne nql', z1] at nl
        cases nl
    refine k p l _ sF np nl0 npl.symm ?_ ?_
    · rw [pen_mk]; exact upd_same
    · rw [upd_ne npl.symm, upd_same, hcut]
end
end AW

set_option linter.all false
set_option maxRecDepth 100000
set_option maxHeartbeats 8000000
namespace AW
open PySem PySem.Spec PyProof.Rows L2
section
variable {P : Program} {w : World} {K : PySem.W.Frag} {mg : Str → Option Value} {base : Heap}
theorem dp_ints {K : PySem.W.Frag} {H : Hp} : ∀ ms : List Int, DpAll K H (ms.map V.int) (ms.map PyData.int)
  | [] => .nil
  | m :: r => .cons (.int m) (dp_ints r)
theorem sh_ints (ms : List Int) : SeqAt.shaped (.list (ms.map PyData.int)) = true := PySem.W.ke_shaped_ints ms
/-- a drawn number, the pen a stop further at most -/
def Drawn (H : Hp) (Q : VK) (p : Addr) (B : Int) (ok : Int → Prop) : Prop := ∀ (d : Int) (H' : Hp), ok d → But p H H' → Pen H' p B → Q (.int d) H'
def sp_l_draw (T : Tx K mg) : Sp := fun vs H Q E => ∃ (p : Addr) (n B : Int), vs = [.ref p, .int n] ∧ 0 < n ∧ n < 1073741824 ∧ Pen H p B ∧ B ≤ 1000000 ∧ Drawn H Q p (B + 1) fun d => 0 ≤ d ∧ d < n
theorem ok_l_draw (T : Tx K mg) : FnOk P w K mg base (L2.CX P w) 1 T.a_l_draw T.d_l_draw P_l_draw (sp_l_draw T) := by
  refine T.F_l_draw.okX sc_l_draw (fun vs H Q E h => ?_) (fun cdv A outer s H vs Q E hr h => ?_)
  · obtain ⟨p, n, B, rfl, _⟩ := h
    rfl
  · obtain ⟨p, n, B, rfl, h0, h1, hp, hB, k⟩ := h
    have hu := hu_of hr
    obtain ⟨c, ns, st, rs, e1, e2, hl, hs0, hsB⟩ := hp.at_
    have npc : p ≠ c := ne_of e1 e2 (by intro z; cases z)
    refine ⟨_, (pss_cons (ps_if (pt_cmpR op_gt (pe_dget hu (pv 0) pe_str (fun _ _ => rfl)) pe_int (nomark _))
 (pss_cons (ps_set (i := 2) sc_l_draw.nd rfl (.inl rfl) (pe_op op_modN (pe_callTy call_int1 (by rfl) T.n_int (by decide +kernel) (pa_cons (pe_dget hu (pv 0) pe_str (fun _ _ => rfl)) pa_nil)) (pv 1)))
 (pss_cons (ps_dput hu (pv 0) pe_str (pe_op op_fdivN (pe_dget hu (pv 0) pe_str (fun _ _ => rfl)) (pv 1)) rfl)
 (pss_one (ps_ret (pv 2)))))
 pss_nil)
 (pss_cons (ps_set (i := 3) sc_l_draw.nd rfl (.inl rfl) (pe_dget hu (pv 0) pe_str (fun _ _ => rfl)))
 (pss_cons (ps_dput hu (pv 0) pe_str (pe_op op_add (pv 3) pe_int) rfl)
 (pss_cons (ps_set (i := 4) sc_l_draw.nd rfl (.inl rfl) (pe_op op_add (pe_op op_mul pe_int (pv 3)) pe_int))
 (pss_cons (ps_if (pt_cmpR (op_neD hr.units) (pe_dget hu (pv 0) pe_str (fun _ _ => rfl)) (pe_lst pa_nil) (nomark _))
 (pss_one (ps_set (i := 4) sc_l_draw.nd rfl (.inl rfl) (pe_ix ix_list (pe_dget hu (pv 0) pe_str (fun _ _ => rfl)) (pe_op op_modN (pe_callTy call_int1 (by rfl) T.n_int (by decide +kernel) (pa_cons (pv 3) pa_nil)) (pe_callB call_len_seq (by rfl) T.n_len (by decide +kernel) (pa_cons (pe_dget hu (pv 0) pe_str (fun _ _ => rfl)) pa_nil))) (fun _ _ => rfl))))
 pss_nil)
 (pss_cons (ps_if (PW.pt (pw_and (pt_cmpR op_lt (pv 3) (pe_callB call_len_seq (by rfl) T.n_len (by decide +kernel) (pa_cons (pe_dget hu (pv 0) pe_str (fun _ _ => rfl)) pa_nil)) (nomark _)) (pw_and1 (pt_cmpR op_ge (pe_callB call_abs (by rfl) T.n_abs (by decide +kernel) (pa_cons (pv 4) pa_nil)) (pe_op op_pow pe_int pe_int) (nomark _)))))
 (pss_cons (ps_dput hu (pv 0) pe_str (pe_op op_fdivN (pe_op op_sub (pe_callB call_abs (by rfl) T.n_abs (by decide +kernel) (pa_cons (pv 4) pa_nil)) (pe_op op_pow pe_int pe_int)) (pv 1)) rfl)
 (pss_one (ps_ret (pe_op op_modN (pe_callTy call_int1 (by rfl) T.n_int (by decide +kernel) (pa_cons (pe_op op_sub (pe_callB call_abs (by rfl) T.n_abs (by decide +kernel) (pa_cons (pv 4) pa_nil)) (pe_op op_pow pe_int pe_int)) pa_nil)) (pv 1)))))
 pss_nil)
 (pss_cons (ps_set (i := 5) sc_l_draw.nd rfl (.inl rfl) (pe_op op_add (pe_op op_mul (pe_op op_modN (pe_callTy call_int1 (by rfl) T.n_int (by decide +kernel) (pa_cons (pv 4) pa_nil)) pe_int) pe_int) (pe_op op_mul (pe_op op_mul pe_int (pv 3)) (pv 3))))
 (pss_cons (ps_set (i := 5) sc_l_draw.nd rfl (.inl rfl) (pe_op op_modN (pe_callTy call_int1 (by rfl) T.n_int (by decide +kernel) (pa_cons (pe_op op_add (pe_op op_add (pv 5) (pe_op op_mul pe_int (pv 3))) pe_int) pa_nil)) pe_int))
 (pss_cons (ps_set (i := 5) sc_l_draw.nd rfl (.inl rfl) (pe_op op_modN (pe_callTy call_int1 (by rfl) T.n_int (by decide +kernel) (pa_cons (pe_op op_add (pe_op op_add (pe_op op_add (pe_op op_mul (pv 5) (pv 5)) (pe_op op_mul pe_int (pv 5))) (pe_op op_mul pe_int (pv 3))) pe_int) pa_nil)) pe_int))
 (pss_cons (ps_set (i := 5) sc_l_draw.nd rfl (.inl rfl) (pe_op op_modN (pe_callTy call_int1 (by rfl) T.n_int (by decide +kernel) (pa_cons (pe_op op_add (pe_op op_add (pe_op op_mul (pv 5) (pv 5)) (pe_op op_mul pe_int (pv 5))) (pv 3)) pa_nil)) pe_int))
 (pss_one (ps_ret (pe_op op_modN (pe_callTy call_int1 (by rfl) T.n_int (by decide +kernel) (pa_cons (pe_op op_fdivN (pe_op op_modN (pe_callTy call_int1 (by rfl) T.n_int (by decide +kernel) (pa_cons (pe_op op_mul (pv 5) (pe_op op_add (pv 5) pe_int)) pa_nil)) pe_int) pe_int) pa_nil)) (pv 1)))))))))))))), ?_⟩
    have dn : CDivN rs n := ⟨by omega, by omega⟩
    refine ⟨_, rfl, p, _, rfl, dg_r e1, _, _, rfl, rfl, _, rfl, ?_⟩
    refine ite2 (fun _ => ?_) (fun _ => ?_)
    · refine ⟨_, rfl, p, _, rfl, dg_r e1, .inl ⟨_, rfl, _, rfl, _, _, rfl, rfl, (by omega), ?_⟩⟩
      refine ⟨_, rfl, p, _, rfl, dg_r e1, _, rfl, _, _, rfl, rfl, dn, _, rfl, p, _, rfl, dp_r e1, ?_⟩
      refine ⟨_, rfl, k _ _ (fmod_in h0) (But.upd (But.refl H) e1) ⟨c, ns, st, _, upd_same, by rw [upd_ne npc.symm]; exact e2, hl, hs0, by omega⟩⟩
    · refine ⟨_, rfl, p, _, rfl, dg_s e1, ?_⟩
      refine ⟨_, rfl, _, _, rfl, rfl, _, rfl, p, _, rfl, dp_s e1, ?_⟩
      refine ⟨_, rfl, _, _, rfl, rfl, .inl ⟨by decide, by decide⟩, _, _, rfl, rfl, ?_⟩
      have hp1 : upd H p (.dK (penD c (st + 1) rs)) p = some (.dK (penD c (st + 1) rs)) := upd_same
      have hc1 : upd H p (.dK (penD c (st + 1) rs)) c = some (.lst (ns.map V.int)) := by rw [upd_ne npc.symm]; exact e2
      have b1 : But p H (upd H p (.dK (penD c (st + 1) rs))) := But.upd (But.refl H) e1
      generalize upd H p (.dK (penD c (st + 1) rs)) = H1 at hp1 hc1 b1 ⊢
      refine ⟨_, rfl, p, _, rfl, dg_c hp1, (by show 0 ≤ sizeLine; decide), fun e0 ne0 => ?_⟩
      have se0 : Same H1 (upd H1 e0 (.lst [])) := Same.laid ne0
      have hp2 := se0 _ _ hp1
      have hc2 := se0 _ _ hc1
      have b2 : But p H (upd H1 e0 (.lst [])) := b1.new ne0
      have he2 : upd H1 e0 (.lst []) e0 = some (.lst []) := upd_same
      generalize upd H1 e0 (.lst []) = H2 at hp2 hc2 b2 he2 ⊢
      refine ⟨.list (ns.map PyData.int), .list [], .lst (SqL.of hc2) (dp_ints ns), .lst (SqL.of he2) .nil, sh_ints ns, rfl, _, rfl, ?_⟩
      have dz : ∀ z : Int, CDivN z n := fun z => ⟨by omega, by omega⟩
      have n0 : n ≠ 0 := by omega
      have cp : CPow 10 18 := ⟨by decide, by decide, by decide⟩
      have nzA : (4294966297 : Int) ≠ 0 := by decide
      have nzB : (4294966279 : Int) ≠ 0 := by decide
      have nzC : (4294966237 : Int) ≠ 0 := by decide
      have nzD : (4294966217 : Int) ≠ 0 := by decide
      have nzE : (4294966187 : Int) ≠ 0 := by decide
      have bB : ∀ x : Int, -(2 ^ 64) < x.fmod 4294966279 ∧ x.fmod 4294966279 < 2 ^ 64 := fun x => by have := fmod_in (a := x) (b := 4294966279) (by decide); omega
      have bC : ∀ x : Int, -(2 ^ 64) < x.fmod 4294966237 ∧ x.fmod 4294966237 < 2 ^ 64 := fun x => by have := fmod_in (a := x) (b := 4294966237) (by decide); omega
      have bD : ∀ x : Int, -(2 ^ 64) < x.fmod 4294966217 ∧ x.fmod 4294966217 < 2 ^ 64 := fun x => by have := fmod_in (a := x) (b := 4294966217) (by decide); omega
      have kk : ∀ (z : Int) H', But p H H' → Pen H' p (B + 1) → Q (.int (z.fmod n)) H' := fun z H' b q => k _ H' (fmod_in h0) b q
      have P2 : ∀ H', (∃ r, H' p = some (.dK (penD c (st + 1) r))) → H' c = some (.lst (ns.map V.int)) → Pen H' p (B + 1) := fun H' ⟨r, e⟩ e' => ⟨c, ns, st + 1, r, e, e', hl, by omega, by omega⟩
      refine ite2 (fun hne => ?_) (fun _ => ?_)
      focus
        have hpos : 0 < ns.length := by
          cases ns with
          | nil => exact absurd hne (by decide)
          | cons a r => exact Nat.succ_pos _
        have hm := fmod_in (a := st) (b := (ns.length : Int)) (by omega)
        have hi : ∃ z, atI (ns.map V.int) (st.fmod ((ns.map V.int).length : Int)) = some (.int z) := by
          rw [List.length_map]
          obtain ⟨j, hj⟩ := Int.eq_ofNat_of_zero_le hm.1
          have hj2 : j < ns.length := by omega
          refine ⟨ns[j], ?_⟩
          rw [hj, atI_nat (by rw [List.getElem?_map, List.getElem?_eq_getElem hj2]; rfl)]
        obtain ⟨z, hz⟩ := hi
        refine ⟨_, rfl, p, _, rfl, dg_c hp2, _, rfl, .inl ⟨_, rfl, _, rfl, p, _, rfl, dg_c hp2, c, _, rfl, .inl (SqL.of hc2), _, _, rfl, rfl, (by rw [List.length_map]; omega), c, _, _, _, rfl, rfl, SqL.of hc2, hz, ?_⟩⟩
        clear hz hm hne hpos
      all_goals
        refine ⟨_, rfl, _, rfl, p, _, rfl, dg_c hp2, c, _, rfl, .inl (SqL.of hc2), _, _, rfl, rfl, _, rfl, ?_⟩
        refine ite2 (fun _ => ?_) (fun _ => ?_)
        focus
          refine ⟨_, rfl, _, rfl, _, _, rfl, rfl, cp, _, _, rfl, rfl, _, rfl, ?_⟩
          refine ite2 (fun _ => ?_) (fun _ => ?_)
          focus
            refine ⟨_, rfl, _, rfl, _, _, rfl, rfl, cp, _, _, rfl, rfl, _, rfl, _, _, rfl, rfl, dz _, _, rfl, p, _, rfl, dp_r hp2, ?_⟩
            refine ⟨_, rfl, _, rfl, _, _, rfl, rfl, cp, _, _, rfl, rfl, .inl ⟨_, rfl, _, rfl, _, _, rfl, rfl, n0, ?_⟩⟩
            exact kk _ _ (b2.upd hp2) (P2 _ ⟨_, upd_same⟩ (by rw [upd_ne npc.symm]; exact hc2))
        rotate_left
        focus
          refine iteF ?_
        all_goals
          refine ⟨_, rfl, .inl ⟨_, rfl, _, _, rfl, rfl, nzA, _, _, rfl, rfl, .inr ⟨by decide, by decide⟩, _, rfl, _, _, rfl, rfl, .inl ⟨by decide, by decide⟩, _, rfl, _, _, rfl, rfl, .inr ⟨by omega, by omega⟩, _, _, rfl, rfl, ?_⟩⟩
          refine ⟨_, rfl, _, rfl, _, _, rfl, rfl, .inl ⟨by decide, by decide⟩, _, _, rfl, rfl, _, _, rfl, rfl, .inl ⟨_, rfl, _, _, rfl, rfl, nzB, ?_⟩⟩
          refine ⟨_, rfl, _, rfl, _, _, rfl, rfl, .inl (bB _), _, rfl, _, _, rfl, rfl, .inl ⟨by decide, by decide⟩, _, _, rfl, rfl, _, rfl, _, _, rfl, rfl, .inl ⟨by decide, by decide⟩, _, _, rfl, rfl, _, _, rfl, rfl, .inl ⟨_, rfl, _, _, rfl, rfl, nzC, ?_⟩⟩
          refine ⟨_, rfl, _, rfl, _, _, rfl, rfl, .inl (bC _), _, rfl, _, _, rfl, rfl, .inl ⟨by decide, by decide⟩, _, _, rfl, rfl, _, rfl, _, _, rfl, rfl, .inl ⟨_, rfl, _, _, rfl, rfl, nzD, ?_⟩⟩
          refine ⟨_, rfl, _, rfl, _, _, rfl, rfl, _, _, rfl, rfl, .inl (bD _), .inl ⟨_, rfl, _, _, rfl, rfl, nzE, _, _, rfl, rfl, ⟨by decide, by decide⟩, .inl ⟨_, rfl, _, rfl, _, _, rfl, rfl, n0, ?_⟩⟩⟩
          exact kk _ _ b2 (P2 _ ⟨_, hp2⟩ hc2)
end
end AW

set_option linter.all false
set_option maxRecDepth 100000
set_option maxHeartbeats 8000000
namespace AW
open PySem PySem.Spec PyProof.Rows L2 Fewest
variable [Tbs]
section
variable {P : Program} {w : World} {K : PySem.W.Frag} {mg : Str → Option Value} {base : Heap}
theorem ne_of_dec {a b : Int} (h : (!decide (a = b)) = true) : ¬ a = b := by simpa using h
theorem eq_of_dec {a b : Int} (h : (!decide (a = b)) = false) : a = b := by simpa using h
def pr_is_whole (T : Tx K mg) : Pr := fun ds B k e => ∃ d, ds = [d] ∧ ((∃ i : Int, d = .int i ∧ k (.bl (decide (0 ≤ i))) B) ∨ (plainD d = true ∧ intD d = false ∧ k (.bl false) B))
theorem okD_is_whole (T : Tx K mg) : FnOk P w K mg base (L2.CX P w) 2 T.a_is_whole T.d_is_whole P_is_whole (spD K (pr_is_whole T)) := by
  refine T.F_is_whole.okX sc_is_whole (spD_len fun ds B k e h => by obtain ⟨d, rfl, hk⟩ := h; rfl) (fun cdv A outer s H vs Q E hr h => ?_)
  have G_is_integer : FnOk P w K mg base (L2.CX P w) _ _ _ _ _ := okD_is_integer T
  obtain ⟨G, ds, B, k, e, hs, hR, ⟨d, rfl, hk⟩, hK, hX⟩ := h
  refine ⟨_, (pss_one (ps_ret (pe_and (pe_call G_is_integer (hr.mono (by decide)) (by rfl) T.g_is_integer T.F_is_integer.kp T.b_is_integer .nil passL (pa_cons (pv 0) pa_nil)) (pe_one (pe_cmpR op_ge (pv 0) pe_int (nomark _)))))), run_body (ρ := [some d]) hs hR hK hX rfl ?_⟩
  rcases hk with ⟨i, rfl, hk⟩ | ⟨pd, hi, hk⟩
  · exact ws_ret <| we_and <| we_call <| wa_cons <| we_var rfl <| wa_nil ⟨_, rfl, .inl rfl, ⟨_, rfl, fun _ => we_op <| we_var rfl <| we_int <| ro_b0 hk, fun h => nomatch h⟩⟩
  · exact ws_ret <| we_and <| we_call <| wa_cons <| we_var rfl <| wa_nil ⟨_, rfl, .inl pd, ⟨_, rfl, (fun h => by rw [hi] at h; cases h), fun _ => hk⟩⟩
end
end AW

set_option linter.all false
set_option maxRecDepth 100000
set_option maxHeartbeats 8000000
namespace AW
open PySem PySem.Spec PyProof.Rows L2
section
variable {P : Program} {w : World} {K : PySem.W.Frag} {mg : Str → Option Value} {base : Heap}
/-- the whole root, by what it is -/
def rRoot : List V → Hp → VK → Prop := fun vs H Q => ∃ a : Int, vs = [.int a] ∧ 0 ≤ a ∧ Bd 12000 a ∧ ∀ r : Int, 0 ≤ r → r * r ≤ a → a < (r + 1) * (r + 1) → Q (.int r) H
theorem Bd.one {k : Nat} (h : 1 ≤ k) : Bd k 1 := by
  show 1 < 2 ^ k
  exact Nat.lt_of_lt_of_le (by decide : 1 < 2 ^ 1) (Nat.pow_le_pow_right (by decide) h)
theorem cr_root {X : Cx} : CallR X (.builtin "math.isqrt") rRoot := by
  intro pins s σ H vs us Q I r h
  obtain ⟨a, rfl, a0, hb, q⟩ := h
  obtain ⟨u, rfl, t, rfl⟩ := vals1 r
  have l : a.toNat.log2 ≤ 12000 := by
    refine PySem.W.mg_log ?_
    have : a.natAbs = a.toNat := by omega
    rw [← this]
    exact Nat.lt_trans hb (Nat.pow_lt_pow_right (by decide) (by decide))
  have sp := Float64.isqrt_spec a.toNat
  refine call_function_meets PySem.W.MGF.kind_isqrt PySem.W.MGF.plain_isqrt PySem.W.MGF.entry_isqrt (PySem.W.MGF.args_isqrt _) (PySem.W.mg_run_isqrt a t (by omega) (by omega) (by omega)).meets ?_
  refine ⟨.int _, H, I.tok _, ⟨_, rfl⟩, q _ (by omega) ?_ ?_⟩
  · have := sp.1
    have e : ((Float64.isqrt a.toNat * Float64.isqrt a.toNat : Nat) : Int) ≤ a := by omega
    rw [Int.natCast_mul] at e
    exact e
  · have e : a < (((Float64.isqrt a.toNat + 1) * (Float64.isqrt a.toNat + 1) : Nat) : Int) := by omega
    rw [Int.natCast_mul, Int.natCast_add] at e
    exact e
theorem lg {b : Int} (h : Bd 8000 b) : b.natAbs.log2 < 9000 := by have := PySem.W.mg_log (k := 8000) (Nat.lt_trans h (Nat.pow_lt_pow_right (by decide) (by decide))); omega
def sp_quotient_up (T : Tx K mg) : Sp := fun vs H Q E => ∃ a b : Int, vs = [.int a, .int b] ∧ 0 < b ∧ Bd 8000 a ∧ Bd 8000 b ∧ Q (.int (-((-a) / b))) H
theorem ok_quotient_up (T : Tx K mg) : FnOk P w K mg base (L2.CX P w) 1 T.a_quotient_up T.d_quotient_up P_quotient_up (sp_quotient_up T) := by
  refine T.F_quotient_up.okX sc_quotient_up (fun vs H Q E h => ?_) (fun cdv A outer s H vs Q E hr h => ?_)
  · obtain ⟨a, b, rfl, _⟩ := h
    rfl
  · obtain ⟨a, b, rfl, b0, ha, hb, k⟩ := h
    refine ⟨_, (pss_one (ps_ret (pe_un un_neg (pe_op op_fdivW (pe_un un_neg (pv 0)) (pv 1))))), ?_⟩
    refine ⟨_, rfl, _, rfl, _, rfl, _, _, rfl, rfl, ⟨b0, lg hb⟩, _, rfl, k⟩
def sp_half_outline (T : Tx K mg) : Sp := fun vs H Q E => ∃ a : Int, vs = [.int a] ∧ 0 < a ∧ Bd 8000 a ∧ ∀ h : Int, Fewest.half a h → Q (.int h) H
theorem ok_half_outline (T : Tx K mg) : FnOk P w K mg base (L2.CX P w) 1 T.a_half_outline T.d_half_outline P_half_outline (sp_half_outline T) := by
  refine T.F_half_outline.okX sc_half_outline (fun vs H Q E h => ?_) (fun cdv A outer s H vs Q E hr h => ?_)
  · obtain ⟨a, rfl, _⟩ := h
    rfl
  · obtain ⟨a, rfl, a0, ha, k⟩ := h
    refine ⟨_, (pss_one (ps_ret (pe_op op_add (pe_callBfun cr_root (by rfl) T.mi_isqrt (pa_cons (pe_op op_sub (pe_op op_mul pe_int (pv 0)) pe_int) pa_nil)) pe_int))), ?_⟩
    have b4 : Bd 12000 (4 * a - 1) := ((Bd.mul (k := 3) (m := 8000) (by show (4 : Int).natAbs < 2 ^ 3; decide) ha).sub (Bd.one (k := 8003) (by decide))).mono (by decide)
    refine ⟨_, rfl, _, _, rfl, rfl, .inl ⟨by decide, by decide⟩, _, _, rfl, rfl, _, rfl, by omega, b4, fun r r0 h1 h2 => ?_⟩
    exact ⟨_, _, rfl, rfl, k _ (Fewest.half_of r0 h1 h2)⟩
theorem cmw {i j : Int} (h : Bd 8000 i) (g : Bd 8000 j) : CMulW i j := by have := lg h; have := lg g; unfold CMulW; omega
theorem ab_if (x : Int) : (if x < 0 then -x else x) = Fewest.ab x := by unfold Fewest.ab; split <;> omega
theorem Bd.ab {k : Nat} {x : Int} (h : Bd k x) : Bd k (Fewest.ab x) := by unfold Bd Fewest.ab at *; omega
def sp_fewest_steps (T : Tx K mg) : Sp := fun vs H Q E => ∃ (p : Addr) (x y a : Int), vs = [.ref p] ∧ PlAt T H p x y a ∧ Bd 3000 x ∧ Bd 3000 y ∧ Bd 3000 a ∧ ∀ n : Int, Fewest.St x y a n → Q (.int n) H
theorem ok_fewest_steps (T : Tx K mg) : FnOk P w K mg base (L2.CX P w) 2 T.a_fewest_steps T.d_fewest_steps P_fewest_steps (sp_fewest_steps T) := by
  have G_quotient_up : FnOk P w K mg base (L2.CX P w) 1 _ _ _ _ := ok_quotient_up T
  have G_half_outline : FnOk P w K mg base (L2.CX P w) 1 _ _ _ _ := ok_half_outline T
  refine T.F_fewest_steps.okX sc_fewest_steps (fun vs H Q E h => ?_) (fun cdv A outer s H vs Q E hr h => ?_)
  · obtain ⟨p, x, y, a, rfl, _⟩ := h
    rfl
  · obtain ⟨p, x, y, a, rfl, hp, bx, by', ba, k⟩ := h
    refine ⟨_, (pss_cons (ps_set (i := 1) sc_fewest_steps.nd rfl (.inl rfl) (pe_callB (call_max2 rfl) (by rfl) T.n_max (by decide +kernel) (pa_cons (pe_callB call_abs (by rfl) T.n_abs (by decide +kernel) (pa_cons (pe_fld (pv 0) rfl) pa_nil)) (pa_cons (pe_callB call_abs (by rfl) T.n_abs (by decide +kernel) (pa_cons (pe_fld (pv 0) rfl) pa_nil)) pa_nil))))
 (pss_cons (ps_set (i := 2) sc_fewest_steps.nd rfl (.inl rfl) (pe_callB (call_min2 rfl) (by rfl) T.n_min (by decide +kernel) (pa_cons (pe_callB call_abs (by rfl) T.n_abs (by decide +kernel) (pa_cons (pe_fld (pv 0) rfl) pa_nil)) (pa_cons (pe_callB call_abs (by rfl) T.n_abs (by decide +kernel) (pa_cons (pe_fld (pv 0) rfl) pa_nil)) pa_nil))))
 (pss_cons (ps_set (i := 3) sc_fewest_steps.nd rfl (.inl rfl) (pe_op op_fdivW (pe_op op_add (pe_callB call_abs (by rfl) T.n_abs (by decide +kernel) (pa_cons (pe_op op_sub (pe_op op_mul pe_int (pe_fld (pv 0) rfl)) (pe_op op_mulW (pe_fld (pv 0) rfl) (pe_fld (pv 0) rfl))) pa_nil)) (pe_op op_mulW (pv 1) (pv 2))) pe_int))
 (pss_cons (ps_if (pt_cmpR op_le (pv 3) (pe_op op_mulW (pv 1) (pv 2)) (nomark _))
 (pss_one (ps_ret (pe_op op_add (pv 1) (pv 2))))
 pss_nil)
 (pss_cons (ps_if (pt_cmpR op_le (pv 3) (pe_op op_mulW (pv 1) (pv 1)) (nomark _))
 (pss_one (ps_ret (pe_op op_sub (pe_op op_add (pe_op op_mul pe_int (pe_call G_quotient_up (hr.mono (by decide)) (by rfl) T.g_quotient_up T.F_quotient_up.kp T.b_quotient_up .nil passL (pa_cons (pv 3) (pa_cons (pv 1) pa_nil)))) (pv 1)) (pv 2))))
 pss_nil)
 (pss_one (ps_ret (pe_op op_sub (pe_op op_sub (pe_op op_mul pe_int (pe_call G_half_outline (hr.mono (by decide)) (by rfl) T.g_half_outline T.F_half_outline.kp T.b_half_outline .nil passL (pa_cons (pv 3) pa_nil))) (pv 1)) (pv 2))))))))), ?_⟩
    obtain ⟨dx, e⟩ := id hp
    refine ⟨_, rfl, p, _, dx, _, _, rfl, e, T.cl_Place, T.na_Place_x, rfl, _, rfl, _, rfl, p, _, dx, _, _, rfl, e, T.cl_Place, T.na_Place_y, rfl, _, rfl, _, _, rfl, ?_⟩
    refine ⟨_, rfl, p, _, dx, _, _, rfl, e, T.cl_Place, T.na_Place_x, rfl, _, rfl, _, rfl, p, _, dx, _, _, rfl, e, T.cl_Place, T.na_Place_y, rfl, _, rfl, _, _, rfl, ?_⟩
    rw [ab_if, ab_if]
    generalize hX : Fewest.ab x = X
    generalize hY : Fewest.ab y = Y
    obtain ⟨L, S, hL, hS, hLS⟩ : ∃ L S : Int, (if Y > X then Y else X) = L ∧ (if Y < X then Y else X) = S ∧ ((L = X ∧ S = Y ∧ Y ≤ X) ∨ (L = Y ∧ S = X ∧ X ≤ Y)) := by
      refine ⟨_, _, rfl, rfl, ?_⟩
      split <;> split <;> omega
    rw [hL, hS]
    have bX : Bd 3000 X := by rw [← hX]; exact bx.ab
    have bY : Bd 3000 Y := by rw [← hY]; exact by'.ab
    have bL : Bd 3000 L := by rcases hLS with ⟨e1, _⟩ | ⟨e1, _⟩ <;> rw [e1] <;> assumption
    have bS : Bd 3000 S := by rcases hLS with ⟨_, e1, _⟩ | ⟨_, e1, _⟩ <;> rw [e1] <;> assumption
    have mL : Bd 8000 L := bL.mono (by decide)
    have mS : Bd 8000 S := bS.mono (by decide)
    refine ⟨_, rfl, p, _, dx, _, _, rfl, e, T.cl_Place, T.na_Place_area, rfl, _, _, rfl, rfl, .inl ⟨by decide, by decide⟩, ?_⟩
    refine ⟨_, rfl, p, _, dx, _, _, rfl, e, T.cl_Place, T.na_Place_x, rfl, _, rfl, p, _, dx, _, _, rfl, e, T.cl_Place, T.na_Place_y, rfl, _, _, rfl, rfl, cmw (bx.mono (by decide)) (by'.mono (by decide)), ?_⟩
    refine ⟨_, _, rfl, rfl, _, rfl, _, rfl, _, rfl, _, _, rfl, rfl, cmw mL mS, _, _, rfl, rfl, _, _, rfl, rfl, ⟨by decide, by decide⟩, ?_⟩
    rw [ab_if]
    have bU : Bd 7000 (Fewest.ab (2 * a - x * y)) := (((Bd.mul (k := 2) (m := 3000) (by show (2 : Int).natAbs < 2 ^ 2; decide) ba).mono (show 2 + 3000 ≤ 6000 by decide)).sub (bx.mul by')).ab.mono (by decide)
    have U0 : 0 ≤ Fewest.ab (2 * a - x * y) := by unfold Fewest.ab; omega
    have par : (Fewest.ab (2 * a - x * y) + X * Y) % 2 = 0 := by
      have e1 : X * Y = Fewest.ab (x * y) := by rw [← hX, ← hY]; unfold Fewest.ab; rw [Int.natAbs_mul, Int.natCast_mul]
      rw [e1]
      unfold Fewest.ab
      omega
    have X0 : 0 ≤ X := by rw [← hX]; unfold Fewest.ab; omega
    have Y0 : 0 ≤ Y := by rw [← hY]; unfold Fewest.ab; omega
    have LSXY : L * S = X * Y := by
      rcases hLS with ⟨e1, e2, _⟩ | ⟨e1, e2, _⟩
      · rw [e1, e2]
      · rw [e1, e2, Int.mul_comm]
    have fin : ∀ n : Int, Fewest.Least L S (Fewest.ab (2 * a - x * y)) n → Q (.int n) H := fun n h => by
      refine k n ?_
      unfold Fewest.St
      rw [hX, hY]
      rcases hLS with ⟨e1, e2, _⟩ | ⟨e1, e2, _⟩
      · rw [e1, e2] at h; exact h
      · rw [e1, e2] at h; exact h.swap
    have hSL : S ≤ L ∧ 0 ≤ S := by omega
    generalize hU : Fewest.ab (2 * a - x * y) = U at bU U0 par fin ⊢
    obtain ⟨AA, hA⟩ : ∃ AA : Int, (U + L * S) / 2 = AA := ⟨_, rfl⟩
    have hA2 : 2 * AA = U + L * S := by rw [LSXY] at hA ⊢; omega
    have bA : Bd 8000 AA := by
      have b1 : Bd 7001 (U + L * S) := bU.add ((bL.mul bS).mono (by decide))
      have b2 : Bd 7001 AA := by unfold Bd at *; omega
      exact b2.mono (by decide)
    rw [show (fun i j : Int => V.int (i / j)) (U + L * S) 2 = V.int AA from congrArg V.int hA]
    refine ⟨_, rfl, _, rfl, _, rfl, _, _, rfl, rfl, cmw mL mS, _, _, rfl, rfl, _, rfl, ?_⟩
    refine ite2 (fun h1 => ?_) (fun h1 => ?_)
    · exact ⟨_, rfl, _, rfl, _, _, rfl, rfl, fin _ (Fewest.least1 hA2 (of_decide_eq_true h1))⟩
    · have h1 : L * S < AA := by have := of_decide_eq_false (Bool.eq_false_iff.mpr h1); omega
      refine ⟨_, rfl, _, rfl, _, rfl, _, _, rfl, rfl, cmw mL mL, _, _, rfl, rfl, _, rfl, ?_⟩
      have LS0 : 0 ≤ L * S := by rw [LSXY]; exact Int.mul_nonneg X0 Y0
      refine ite2 (fun h2 => ?_) (fun h2 => ?_)
      · have h2 := of_decide_eq_true h2
        have L0 : 0 < L := by
          rcases (show L = 0 ∨ 0 < L by omega) with z | z
          · subst z; omega
          · exact z
        refine ⟨_, rfl, _, rfl, AA, L, rfl, L0, bA, mL, _, _, rfl, rfl, .inl ⟨by decide, by decide⟩, _, rfl, _, _, rfl, rfl, _, rfl, _, _, rfl, rfl, fin _ (Fewest.least2 hSL.2 L0 hA2 h1 h2 (Fewest.up_ex L0).1 (Fewest.up_ex L0).2)⟩
      · have h2 : L * L < AA := by have := of_decide_eq_false (Bool.eq_false_iff.mpr h2); omega
        refine ⟨_, rfl, AA, rfl, by omega, bA, fun h hh => ?_⟩
        refine ⟨_, _, rfl, rfl, .inl ⟨by decide, by decide⟩, _, rfl, _, _, rfl, rfl, _, rfl, _, _, rfl, rfl, fin _ (Fewest.least3 hSL.2 hSL.1 hA2 h2 hh)⟩
end
end AW

set_option linter.all false
set_option maxRecDepth 100000
set_option maxHeartbeats 8000000
namespace AW
open PySem PySem.Spec PyProof.Rows L2
section
variable {P : Program} {w : World} {K : PySem.W.Frag} {mg : Str → Option Value} {base : Heap}
end
end AW

set_option linter.all false
set_option maxRecDepth 100000
set_option maxHeartbeats 8000000
namespace AW
open PySem PySem.Spec PyProof.Rows L2 Fewest
variable [Tbs]
abbrev Rn := Str × Int
abbrev prD (p : Rn) : D := .tup [.str p.1, .int p.2]
/-- one pair more: what is told, the letter that runs, its count -/
def jStep (s : List Rn × Str × Int) (p : Rn) : List Rn × Str × Int :=
  if p.2 = 0 then s else if p.1 = s.2.1 then (s.1, s.2.1, s.2.2 + p.2) else (if s.2.2 > 0 then s.1 ++ [(s.2.1, s.2.2)] else s.1, p.1, p.2)
def jEnd (s : List Rn × Str × Int) : List Rn := if s.2.2 > 0 then s.1 ++ [(s.2.1, s.2.2)] else s.1
def joinF (ps : List Rn) : List Rn := jEnd (ps.foldl jStep ([], "", 0))
theorem jStep_len (s : List Rn × Str × Int) (p : Rn) : (jStep s p).1.length ≤ s.1.length + 1 := by
  unfold jStep
  repeat' split
  all_goals simp
theorem jFold_len : ∀ (ps : List Rn) (s : List Rn × Str × Int), (ps.foldl jStep s).1.length ≤ s.1.length + ps.length
  | [], s => Nat.le_refl _
  | p :: ps, s => by
    rw [List.foldl_cons, List.length_cons]
    have := jFold_len ps (jStep s p)
    have := jStep_len s p
    omega
section
variable {P : Program} {w : World} {K : PySem.W.Frag} {mg : Str → Option Value} {base : Heap}
def pr_joined_runs (T : Tx K mg) : Pr := fun ds B k e => ∃ ps : List Rn, ds = [.lst (ps.map prD)] ∧ ps.length ≤ 1000000 ∧ k (.tup ((joinF ps).map prD)) B
theorem okD_joined_runs (T : Tx K mg) : FnOk P w K mg base (L2.CX P w) 1 T.a_joined_runs T.d_joined_runs P_joined_runs (spD K (pr_joined_runs T)) := by
  refine T.F_joined_runs.okX sc_joined_runs (spD_len fun ds B k e h => by obtain ⟨ps, rfl, hl, hk⟩ := h; rfl) (fun cdv A outer s H vs Q E hr h => ?_)
  obtain ⟨G, ds, B, k, e, hs, hR, ⟨ps, rfl, hl, hk⟩, hK, hX⟩ := h
  refine ⟨_, (pss_cons (ps_set (i := 1) sc_joined_runs.nd rfl (.inl rfl) (pe_lst pa_nil))
 (pss_cons (ps_asg (pe_tup (pa_cons pe_str (pa_cons pe_int pa_nil))) (pg_tup rfl (pgs_cons (pg_name (i := 2) sc_joined_runs.nd rfl (.inl rfl)) (pgs_cons (pg_name (i := 3) sc_joined_runs.nd rfl (.inl rfl)) pgs_nil))))
 (pss_cons (ps_for (passes_of rfl) rfl (pi_list (pv 0)) (pg_tup rfl (pgs_cons (pg_name (i := 4) sc_joined_runs.nd rfl (.inl rfl)) (pgs_cons (pg_name (i := 5) sc_joined_runs.nd rfl (.inl rfl)) pgs_nil)))
 (pss_cons (ps_if (pt_cmpR op_eq (pv 5) pe_int (nomark _))
 (pss_one ps_continue)
 pss_nil)
 (pss_cons (ps_if (pt_cmpR op_eq (pv 4) (pv 2) (nomark _))
 (pss_cons (ps_set (i := 3) sc_joined_runs.nd rfl (.inl rfl) (pe_op op_add (pv 3) (pv 5)))
 (pss_one ps_continue))
 pss_nil)
 (pss_cons (ps_if (pt_cmpR op_gt (pv 3) pe_int (nomark _))
 (pss_one (ps_expr (pe_bm PySem.F.plainAttrs_list PySem.F.slot_list_append PySem.F.type_list_append mt_append (pv 1) (pa_cons (pe_tup (pa_cons (pv 2) (pa_cons (pv 3) pa_nil))) pa_nil))))
 pss_nil)
 (pss_one (ps_par (i := 2) (j := 3) (by rfl) sc_joined_runs.nd rfl rfl (by decide) rfl rfl (pa_cons (pv 4) (pa_cons (pv 5) pa_nil)) (by rfl)))))))
 (pss_cons (ps_if (pt_cmpR op_gt (pv 3) pe_int (nomark _))
 (pss_one (ps_expr (pe_bm PySem.F.plainAttrs_list PySem.F.slot_list_append PySem.F.type_list_append mt_append (pv 1) (pa_cons (pe_tup (pa_cons (pv 2) (pa_cons (pv 3) pa_nil))) pa_nil))))
 pss_nil)
 (pss_one (ps_ret (pe_callTy call_tuple_of (by rfl) T.n_tuple (by decide +kernel) (pa_cons (pv 1) pa_nil)))))))), run_body (ρ := [some (.lst (ps.map prD)), none, none, none, none, none]) hs hR hK hX rfl ?_⟩
  have zL : 16000000 < sizeLine := by decide
  have z2 : 2 ≤ sizeLine := by decide
  refine wx_own <| wx_seq <| wx_newlist fun p => ?_
  refine wx_seq <| wx_ws <| ws_asg <| we_tup <| wa_cons <| we_str <| wa_cons <| we_int <| wa_nil ⟨Nat.le_of_ble_eq_true rfl, wg_tup rfl <| wgs_cons <| wg_name <| wgs_cons <| wg_name <| wgs_nil ?_⟩
  refine wx_seq <| wx_for_list (j := 0) rfl fun u => ⟨fun i ρ' O' B' => (∃ (o4 o5 : Option D) (s : List Rn × Str × Int), s = (ps.take i).foldl jStep ([], "", 0) ∧ ρ' = [some (.at_ u (.lst (ps.map prD))), some (.val (.ref p)), some (.str s.2.1), some (.int s.2.2), o4, o5] ∧ O' = [(p, .list (s.1.map prD))]) ∧ B = B', ⟨⟨_, _, _, rfl, rfl, rfl⟩, rfl⟩, fun i ρ' O' B' hI => ?_, fun i d ρ' O' B' hd hI => ?_, fun ρ' O' B' hI => ?_⟩
  · obtain ⟨⟨o4, o5, s, _, rfl, _⟩, _⟩ := hI
    rfl
  · obtain ⟨⟨o4, o5, s, es, rfl, rfl⟩, rfl⟩ := hI
    rw [List.getElem?_map] at hd
    obtain ⟨q, hq, rfl⟩ := Option.map_eq_some_iff.mp hd
    have tk : (ps.take (i + 1)).foldl jStep ([], "", 0) = jStep s q := by
      rw [List.take_add_one, hq, Option.toList_some, List.foldl_append, ← es]; rfl
    have ls : s.1.length ≤ 1000000 := by
      have h1 := jFold_len (ps.take i) ([], "", 0)
      rw [← es, List.length_take] at h1
      have h1 : s.1.length ≤ 0 + min i ps.length := h1
      omega
    refine wg_tup rfl <| wgs_cons <| wg_name <| wgs_cons <| wg_name <| wgs_nil ?_
    refine wx_seq <| wx_ifT <| wt_test <| we_op <| we_var rfl <| we_int <| ro_eqI ⟨_, rfl, fun h1 => ?_, fun h1 => wx_next ?_⟩
    · have ej : jStep s q = s := if_pos (of_decide_eq_true h1)
      exact wx_ws <| ws_cont ⟨⟨_, _, s, by rw [tk, ej], rfl, rfl⟩, rfl⟩
    have h1 := of_decide_eq_false h1
    refine wx_seq <| wx_ifT <| wt_test <| we_op <| we_var rfl <| we_var rfl <| ro_eqS ⟨_, rfl, fun h2 => ?_, fun h2 => wx_next ?_⟩
    · have ej : jStep s q = (s.1, s.2.1, s.2.2 + q.2) := by unfold jStep; rw [if_neg h1, if_pos (of_decide_eq_true h2)]
      refine wx_seq <| wx_ws <| ws_set <| we_op <| we_var rfl <| we_var rfl <| ro_i0 ?_
      exact wx_ws <| ws_cont ⟨⟨_, _, (s.1, s.2.1, s.2.2 + q.2), by rw [tk, ej], rfl, rfl⟩, rfl⟩
    have h2 := of_decide_eq_false h2
    have ej : jStep s q = (if s.2.2 > 0 then s.1 ++ [(s.2.1, s.2.2)] else s.1, q.1, q.2) := by unfold jStep; rw [if_neg h1, if_neg h2]
    refine wx_cut (fun ρ' O' B' => ρ' = [some (.at_ u (.lst (ps.map prD))), some (.val (.ref p)), some (.str s.2.1), some (.int s.2.2), some (.str q.1), some (.int q.2)] ∧ O' = [(p, .list ((if s.2.2 > 0 then s.1 ++ [(s.2.1, s.2.2)] else s.1).map prD))] ∧ B = B') ?_ ?_
    · refine wx_ifT <| wt_test <| we_op <| we_var rfl <| we_int <| ro_b0 ⟨_, rfl, fun h3 => ?_, fun h3 => ?_⟩
      · rw [if_pos (of_decide_eq_true h3), List.map_append]
        exact wx_app (n := 0) rfl rfl <| we_tup <| wa_cons <| we_var rfl <| wa_cons <| we_var rfl <| wa_nil ⟨z2, by rw [List.length_map]; omega, rfl, rfl, rfl⟩
      · rw [if_neg (of_decide_eq_false h3)]
        exact wx_next ⟨rfl, rfl, rfl⟩
    rintro _ _ _ ⟨rfl, rfl, rfl⟩
    exact wx_ws <| ws_par <| wa_cons <| we_var rfl <| wa_cons <| we_var rfl <| wa_nil ⟨_, _, rfl, ⟨⟨_, _, _, by rw [tk, ej], rfl, rfl⟩, rfl⟩⟩
  · obtain ⟨⟨o4, o5, s, es, rfl, rfl⟩, rfl⟩ := hI
    rw [List.length_map, List.take_length] at es
    have ls : s.1.length ≤ 1000000 := by
      have h1 := jFold_len ps ([], "", 0)
      rw [← es] at h1
      have h1 : s.1.length ≤ 0 + ps.length := h1
      omega
    have ee : joinF ps = jEnd s := by unfold joinF; rw [es]
    rw [ee] at hk
    refine wx_cut (fun ρ' O' B' => ρ' = [some (.at_ u (.lst (ps.map prD))), some (.val (.ref p)), some (.str s.2.1), some (.int s.2.2), o4, o5] ∧ O' = [(p, .list ((jEnd s).map prD))] ∧ B = B') ?_ ?_
    · unfold jEnd
      refine wx_ifT <| wt_test <| we_op <| we_var rfl <| we_int <| ro_b0 ⟨_, rfl, fun h3 => ?_, fun h3 => ?_⟩
      · rw [if_pos (of_decide_eq_true h3), List.map_append]
        exact wx_app (n := 0) rfl rfl <| we_tup <| wa_cons <| we_var rfl <| wa_cons <| we_var rfl <| wa_nil ⟨z2, by rw [List.length_map]; omega, rfl, rfl, rfl⟩
      · rw [if_neg (of_decide_eq_false h3)]
        exact wx_next ⟨rfl, rfl, rfl⟩
    rintro _ _ _ ⟨rfl, rfl, rfl⟩
    exact wx_tell (i := 1) rfl <| wx_ws <| ws_ret <| we_tupleL <| wa_cons <| we_var rfl <| wa_nil ⟨_, rfl, hk⟩
end
end AW

set_option linter.all false
set_option maxRecDepth 100000
set_option maxHeartbeats 8000000
namespace AW
open PySem PySem.Spec PyProof.Rows L2 Fewest
variable [Tbs]
section
variable {P : Program} {w : World} {K : PySem.W.Frag} {mg : Str → Option Value} {base : Heap} [CDict K w "DIRECTIONS" L_DIRECTIONS]
abbrev T3 := Int × Int × Int
abbrev tD (p : T3) : D := t3 p.1 p.2.1 p.2.2
def dx (c : Str) : Int := if c = "e" then 1 else if c = "w" then -1 else 0
def dy (c : Str) : Int := if c = "n" then 1 else if c = "s" then -1 else 0
theorem chS_enws : chS "enws" = (["e", "n", "w", "s"] : List Str) := by decide +kernel
theorem mem_enws {c : Str} (h : c ∈ chS "enws") : c = "e" ∨ c = "n" ∨ c = "w" ∨ c = "s" := by
  rw [chS_enws] at h
  simpa using h
/-- where a run leads -/
def cStep (s : T3) (p : Rn) : T3 := (s.1 + dx p.1 * p.2, s.2.1 + dy p.1 * p.2, s.2.2 + s.1 * dy p.1 * p.2)
def posF (ps : List Rn) : T3 := ps.foldl cStep (0, 0, 0)
/-- told runs: letters and bounded counts -/
def RnOk (ps : List Rn) : Prop := ps.length ≤ 1000000 ∧ (∀ p ∈ ps, p.1 ∈ chS "enws" ∧ Bd 3000 p.2) ∧ ∀ i, Bd 3000 (posF (ps.take i)).1
end
end AW

set_option linter.all false
set_option maxRecDepth 100000
set_option maxHeartbeats 8000000
namespace AW
open PySem PySem.Spec PyProof.Rows L2 Fewest
variable [Tbs]
section
variable {P : Program} {w : World} {K : PySem.W.Frag} {mg : Str → Option Value} {base : Heap}
theorem kit_lt {K : PySem.W.Frag} : PySem.W.kitAny K (.type "tuple") [.type "list", .type "tuple"] = some true := by kernel_rfl
def pr_is_run (T : Tx K mg) : Pr := fun ds B k e => ∃ p : Rn, ds = [prD p] ∧ p.1 ∈ chS "enws" ∧ 0 ≤ p.2 ∧ k (.bl true) B
theorem okD_is_run (T : Tx K mg) : FnOk P w K mg base (L2.CX P w) 3 T.a_is_run T.d_is_run P_is_run (spD K (pr_is_run T)) := by
  refine T.F_is_run.okX sc_is_run (spD_len fun ds B k e h => by obtain ⟨p, rfl, hc, h0, hk⟩ := h; rfl) (fun cdv A outer s H vs Q E hr h => ?_)
  have G_is_whole : FnOk P w K mg base (L2.CX P w) 2 _ _ _ _ := okD_is_whole T
  obtain ⟨G, ds, B, k, e, hs, hR, ⟨p, rfl, hc, h0, hk⟩, hK, hX⟩ := h
  refine ⟨_, (pss_cons (ps_if (PW.pt (pw_or (pt_not (pt_val (pe_callB call_isiT (by rfl) T.n_isinstance (by decide +kernel) (pa_cons (pv 0) (pa_cons (pe_tup (pa_cons (pe_bltn (v := .ty "list") (by rfl) T.n_list (by decide +kernel) rfl) (pa_cons (pe_bltn (v := .ty "tuple") (by rfl) T.n_tuple (by decide +kernel) rfl) pa_nil))) pa_nil))))) (pw_or1 (pt_cmpR op_ne (pe_callB call_len_seq (by rfl) T.n_len (by decide +kernel) (pa_cons (pv 0) pa_nil)) pe_int (nomark _)))))
 (pss_one (ps_ret pe_bl))
 pss_nil)
 (pss_cons (ps_asg (pv 0) (pg_tup rfl (pgs_cons (pg_name (i := 1) sc_is_run.nd rfl (.inl rfl)) (pgs_cons (pg_name (i := 2) sc_is_run.nd rfl (.inl rfl)) pgs_nil))))
 (pss_one (ps_ret (pe_and (pe_callB call_isi (by rfl) T.n_isinstance (by decide +kernel) (pa_cons (pv 1) (pa_cons (pe_bltn (v := .ty "str") (by rfl) T.n_str (by decide +kernel) rfl) pa_nil))) (pe_and (pe_cmpR op_eq (pe_callB call_len_str (by rfl) T.n_len (by decide +kernel) (pa_cons (pv 1) pa_nil)) pe_int (nomark _)) (pe_and (pe_cmpR op_in_str (pv 1) (pe_glob (v := .str "enws") (by rfl) T.gc_LETTERS ⟨_, rfl⟩) (by rfl)) (pe_one (pe_call G_is_whole (hr.mono (by decide)) (by rfl) T.g_is_whole T.F_is_whole.kp T.b_is_whole .nil passL (pa_cons (pv 2) pa_nil)))))))))), run_body (ρ := [some (prD p), none, none]) hs hR hK hX rfl ?_⟩
  refine ws_seq <| ws_if <| wt_or <| wt_not <| wt_val <| we_isiT2 <| we_var rfl ⟨tyD_tup, kit_lt, _, rfl, (fun h => nomatch h), fun _ => ?_⟩
  refine wt_test <| we_op <| we_lenT <| wa_cons <| we_var rfl <| wa_nil ⟨_, rfl, we_int <| ro_neI ⟨_, rfl, (fun h => nomatch h), fun _ => ws_next ?_⟩⟩
  refine ws_seq <| ws_asg <| we_var rfl <| wg_tup rfl <| wgs_cons <| wg_name <| wgs_cons <| wg_name <| wgs_nil ?_
  have kss : PySem.W.kitOne K (.type "str") (.type "str") = some true := kit_self
  have hin : (!(Builtin.Str.occurrences ("enws" : Str) p.1 0 ("enws" : Str).length 1).isEmpty) = true ∧ p.1.length = 1 := by
    rcases mem_enws hc with e | e | e | e <;> rw [e] <;> decide +kernel
  refine ws_ret <| we_and <| we_isi1 <| we_var rfl ⟨tyD_str, kss, _, rfl, fun _ => ?_, fun h => nomatch h⟩
  refine we_and <| we_op <| we_lenStr <| wa_cons <| we_var rfl <| wa_nil ⟨_, rfl, by rw [hin.2]; decide, we_int <| ro_eqI ?_⟩
  rw [decide_eq_true (show (p.1.length : Int) = 1 by rw [hin.2]; rfl)]
  refine ⟨_, rfl, fun _ => ?_, fun h => nomatch h⟩
  refine we_and <| we_op <| we_var rfl <| we_str <| ro_inS ?_
  rw [hin.1]
  refine ⟨_, rfl, fun _ => ?_, fun h => nomatch h⟩
  refine we_call <| wa_cons <| we_var rfl <| wa_nil ⟨_, rfl, .inl ⟨p.2, rfl, ?_⟩⟩
  rw [decide_eq_true h0]
  exact hk
end
end AW

set_option linter.all false
set_option maxRecDepth 100000
set_option maxHeartbeats 8000000
namespace AW
open PySem PySem.Spec PyProof.Rows L2 Fewest
variable [Tbs]
section
variable {P : Program} {w : World} {K : PySem.W.Frag} {mg : Str → Option Value} {base : Heap}
end
end AW

set_option linter.all false
set_option maxRecDepth 100000
set_option maxHeartbeats 8000000
namespace AW
open PySem PySem.Spec PyProof.Rows L2 Fewest
variable [Tbs]
section
variable {P : Program} {w : World} {K : PySem.W.Frag} {mg : Str → Option Value} {base : Heap}
abbrev rdD (T : Tx K mg) (t : D) : D := .ins T.C_Ready ["runs"] [t]
/-- pairs that are told: good runs, not too many -/
def TdOk (ps : List Rn) : Prop := ps.length ≤ 10000 ∧ ∀ p ∈ ps, p.1 ∈ chS "enws" ∧ 0 ≤ p.2
def pr_told_runs (T : Tx K mg) : Pr := fun ds B k e => ∃ d, ds = [d] ∧ ((∃ ps, d = .lst (ps.map prD) ∧ TdOk ps ∧ k (.tup ((joinF ps).map prD)) B) ∨ (∃ t, d = rdD T t ∧ k t B))
theorem okD_told_runs (T : Tx K mg) : FnOk P w K mg base (L2.CX P w) 4 T.a_told_runs T.d_told_runs P_told_runs (spD K (pr_told_runs T)) := by
  refine T.F_told_runs.okX sc_told_runs (spD_len fun ds B k e h => by obtain ⟨d, rfl, hk⟩ := h; rfl) (fun cdv A outer s H vs Q E hr h => ?_)
  have G_is_run : FnOk P w K mg base (L2.CX P w) 3 _ _ _ _ := okD_is_run T
  have G_joined_runs : FnOk P w K mg base (L2.CX P w) 1 _ _ _ _ := okD_joined_runs T
  obtain ⟨G, ds, B, k, e, hs, hR, ⟨d, rfl, hk⟩, hK, hX⟩ := h
  refine ⟨_, (pss_cons (ps_if (pt_val (pe_callB call_isi (by rfl) T.n_isinstance (by decide +kernel) (pa_cons (pv 0) (pa_cons (pe_glob (v := .ref T.C_Ready) (by rfl) T.g_C_Ready rfl) pa_nil))))
 (pss_one (ps_ret (pe_fld (pv 0) rfl)))
 pss_nil)
 (pss_cons (ps_if (PW.pt (pw_or (pt_not (pt_val (pe_callB call_isiT (by rfl) T.n_isinstance (by decide +kernel) (pa_cons (pv 0) (pa_cons (pe_tup (pa_cons (pe_bltn (v := .ty "str") (by rfl) T.n_str (by decide +kernel) rfl) (pa_cons (pe_bltn (v := .ty "list") (by rfl) T.n_list (by decide +kernel) rfl) (pa_cons (pe_bltn (v := .ty "tuple") (by rfl) T.n_tuple (by decide +kernel) rfl) pa_nil)))) pa_nil))))) (pw_or1 (pt_cmpR op_gt (pe_callB call_len_seq (by rfl) T.n_len (by decide +kernel) (pa_cons (pv 0) pa_nil)) (pe_glob (v := .int 10000) (by rfl) T.gc_MOST_RUNS ⟨_, rfl⟩) (nomark _)))))
 (pss_one (ps_ret pe_non))
 pss_nil)
 (pss_cons (ps_if (pt_val (pe_callB call_isi (by rfl) T.n_isinstance (by decide +kernel) (pa_cons (pv 0) (pa_cons (pe_bltn (v := .ty "str") (by rfl) T.n_str (by decide +kernel) rfl) pa_nil))))
 (pss_one ps_never)
 pss_nil)
 (pss_cons (ps_if (pt_not (pt_val (pe_callB (cr_all rfl) (by rfl) T.n_all (by decide +kernel) (pa_cons (pe_lc (te := (tCall (spD K (pr_is_run T)) [] E0 (tCons (tVar 2) tNil))) (own := [("pair", 2)]) (g := gName 2) (by rfl) sc_told_runs.nd (pi_list (pv 0)) (blkOk_by (own := [("pair", 2)]) (N := N_told_runs) (sc := defScope s_told_runs) (by decide +kernel)) (fun _ _ _ _ _ => pg_name (i := 2) sc_told_runs.nd rfl (Or.inl rfl)) (fun _ _ _ _ _ => pts_nil) (fun _ _ _ _ _ => (pe_call G_is_run (hr.mono (by decide)) (by rfl) T.g_is_run T.F_is_run.kp T.b_is_run .nil passL (pa_cons (pv 2) pa_nil)))) pa_nil))))
 (pss_one (ps_ret pe_non))
 pss_nil)
 (pss_one (ps_ret (pe_call G_joined_runs (hr.mono (by decide)) (by rfl) T.g_joined_runs T.F_joined_runs.kp T.b_joined_runs .nil passL (pa_cons (pv 0) pa_nil)))))))), run_body (ρ := [some d, none, none]) hs hR hK hX rfl ?_⟩
  have kl : PySem.W.kitAny K (.type "list") [.type "str", .type "list", .type "tuple"] = some true := by kernel_rfl
  have ks : PySem.W.kitOne K (.type "list") (.type "str") = some false := by kernel_rfl
  rcases hk with ⟨ps, rfl, ⟨hl, hg⟩, hk⟩ | ⟨t, rfl, hk⟩
  · refine ws_seq <| ws_if <| wt_val <| we_isiC <| we_var rfl ⟨tyD_lst, T.is_list_Ready, _, rfl, (fun h => nomatch h), fun _ => ws_next ?_⟩
    refine ws_seq <| ws_if <| wt_or <| wt_not <| wt_val <| we_isiT3 <| we_var rfl ⟨tyD_lst, kl, _, rfl, (fun h => nomatch h), fun _ => ?_⟩
    refine wt_test <| we_op <| we_lenL <| wa_cons <| we_var rfl <| wa_nil ⟨_, rfl, we_int <| ro_b0 ⟨_, rfl, fun h => ?_, fun _ => ws_next ?_⟩⟩
    · have := of_decide_eq_true h
      rw [List.length_map] at this
      omega
    refine ws_seq <| ws_if <| wt_val <| we_isi1 <| we_var rfl ⟨tyD_lst, ks, _, rfl, (fun h => nomatch h), fun _ => ws_next ?_⟩
    have zL : 16000000 < sizeLine := by decide
    refine ws_seq <| ws_if <| wt_not <| wt_val <| we_all <| wa_cons <| we_lc_mapL (E1 := E0) (f := fun _ => .bl true) <| we_var rfl ⟨_, rfl, by rw [List.length_map]; omega, fun d hd k' hk' => ?_, wa_nil ⟨ps.map fun _ => true, ?_, ?_⟩⟩
    · obtain ⟨p, hp, rfl⟩ := List.mem_map.mp hd
      exact we_call <| wa_cons <| we_var rfl <| wa_nil ⟨p, rfl, (hg p hp).1, (hg p hp).2, hk'⟩
    · rw [List.map_map, List.map_map]; rfl
    · rw [show ((ps.map fun _ => true).all id) = true by simp]
      exact ⟨_, rfl, (fun h => nomatch h), fun _ => ws_next <| ws_ret <| we_call <| wa_cons <| we_var rfl <| wa_nil ⟨ps, rfl, by omega, hk⟩⟩
  · have ty : TyD K (rdD T t) (.ref T.C_Ready) := fun v G H B s r => by
      obtain ⟨a, dx, us, rfl, ha, _⟩ := r
      exact .base (.ins (s _ _ ha) T.cl_Ready T.ca_Ready T.cn T.ct T.cm_Ready)
    refine ws_seq <| ws_if <| wt_val <| we_isiC <| we_var rfl ⟨ty, kit_self, _, rfl, fun _ => ?_, fun h => nomatch h⟩
    exact ws_ret <| we_fld <| we_var rfl ⟨_, _, _, _, rfl, T.cl_Ready, T.na_Ready_runs, rfl, hk⟩
end
end AW

set_option linter.all false
set_option maxRecDepth 100000
set_option maxHeartbeats 8000000
namespace AW
open PySem PySem.Spec PyProof.Rows L2 Fewest
variable [Tbs]
section
variable {P : Program} {w : World} {K : PySem.W.Frag} {mg : Str → Option Value} {base : Heap}
theorem ok_BadWord_init (T : Tx K mg) : FnOk P w K mg base (L2.CX P w) 1 T.a_BadWord_init T.d_BadWord_init P_BadWord_init (sp_einit T.C_BadWord "value") := by
  refine T.F_BadWord_init.okX sc_BadWord_init (fun vs H Q E h => ?_) (fun cdv A outer s H vs Q E hr h => ?_)
  · obtain ⟨a, v, rfl, _⟩ := h
    rfl
  · obtain ⟨a, v, rfl, ha, k⟩ := h
    refine ⟨_, pss_one (ps_ost (pv 0) (pv 1)), ?_⟩
    exact ⟨_, rfl, _, rfl, a, T.C_BadWord, rfl, T.X_BadWord, T.na_BadWord_value, .inl ⟨ha, fun dx hd ne => k dx hd ne⟩⟩
def pr_Walk_init (T : Tx K mg) : List D → Int → (List D → Int → Prop) → EW → Prop := fun ds B k e => ∃ d, ds = [d] ∧ ((∃ ps, d = .lst (ps.map prD) ∧ TdOk ps ∧ k [.tup ((joinF ps).map prD)] B) ∨ (∃ t, d = rdD T t ∧ isNon t = false ∧ k [t] B))
theorem okD_Walk_init (T : Tx K mg) : FnOk P w K mg base (L2.CX P w) 5 T.a_Walk_init T.d_Walk_init P_Walk_init (spI K T.C_Walk ["runs"] (pr_Walk_init T)) := by
  have G_told_runs : FnOk P w K mg base (L2.CX P w) 4 _ _ _ _ := okD_told_runs T
  have G_BadWord_init : FnOk P w K mg base (L2.CX P w) 1 _ _ _ _ := ok_BadWord_init T
  refine T.F_Walk_init.okX sc_Walk_init (fun vs H Q E h => ?_) (fun cdv A outer s H vs Q E hr h => ?_)
  · obtain ⟨p, dx, ws, G, ds, B, k, e, rfl, hp, gp, gdx, ne, hd, hs, hR, ⟨d, rfl, _⟩, hK, hX⟩ := h
    rw [List.length_cons, ← hR.length]
    rfl
  · obtain ⟨p, dx, ws, G, ds, B, k, e, rfl, hp, gp, gdx, ne, hd, hs, hR, ⟨d, rfl, hk⟩, hK, hX⟩ := h
    obtain ⟨v, _, rfl, rv, rfl⟩ := hR
    refine ⟨_, (pss_cons (ps_set (i := 2) sc_Walk_init.nd rfl (.inl rfl) (pe_call G_told_runs (hr.mono (by decide)) (by rfl) T.g_told_runs T.F_told_runs.kp T.b_told_runs .nil (passE (E := E)) (pa_cons (pv 1) pa_nil)))
 (pss_cons (ps_if (pt_cmp (pc_isN (pv 2)))
 (pss_one (ps_raise rfl (takes_of rfl rfl rfl rfl) (pmk_oex T.X_BadWord T.ei_BadWord T.et_BadWord G_BadWord_init (hr.mono (by decide)) T.b_BadWord_init .nil passL rfl T.g_C_BadWord (by exact (pa_cons (pv 1) pa_nil)))))
 pss_nil)
 (pss_one (ps_fld (pv 0) (pv 2) rfl)))), ?_⟩
    have en : EnvR K G B [some (.val (.ref p)), some d, none] (L2.start N_Walk_init [.ref p, v]) := ⟨_, _, rfl, fun d q => by cases q; exact ⟨_, rfl, rfl⟩, _, _, rfl, fun d q => by cases q; exact ⟨_, rfl, rv⟩, _, _, rfl, fun d q => (nomatch q), rfl⟩
    have J : Ws K E e (tAsg (tCall (spD K (pr_told_runs T)) [] E (tCons (tVar 1) tNil)) (gName 2)) [some (.val (.ref p)), some d, none] B { nx := fun ρ' B' => ∃ t, ρ' = [some (.val (.ref p)), some d, some t] ∧ isNon t = false ∧ k [t] B', rt := fun _ _ => False } := by
      rcases hk with ⟨ps, rfl, hg, hk⟩ | ⟨t, rfl, hn, hk⟩
      · exact ws_set <| we_call <| wa_cons <| we_var rfl <| wa_nil ⟨_, rfl, .inl ⟨ps, rfl, hg, ⟨_, rfl, rfl, hk⟩⟩⟩
      · exact ws_set <| we_call <| wa_cons <| we_var rfl <| wa_nil ⟨_, rfl, .inr ⟨t, rfl, ⟨_, rfl, hn, hk⟩⟩⟩
    refine J _ H G _ hs en hX ⟨fun ρ' σ' B' G' H' hz ex en' => ?_, fun _ _ _ _ _ h => h.elim, fun _ _ _ _ _ h => h.elim, fun _ _ _ _ _ h => h.elim⟩
    obtain ⟨t, eρ, hn, hk'⟩ := hz
    subst eρ
    have J2 : ∀ r : TS, Ws K E e (tIfS (tB (tIsN (tVar 2))) r tNext) [some (.val (.ref p)), some d, some t] B' { nx := fun ρ2 B2 => ρ2 = [some (.val (.ref p)), some d, some t] ∧ B2 = B', rt := fun _ _ => False } := fun r =>
      ws_if <| wt_val <| we_isN <| we_var rfl ⟨_, rfl, (fun h => by rw [hn] at h; cases h), fun _ => ws_next ⟨rfl, rfl⟩⟩
    show tSeq _ _ _ σ' H'
    unfold tSeq
    dsimp only
    refine J2 _ _ H' G' _ ex.sub en' (hX.ext ex) ⟨fun ρ2 σ2 B2 G2 H2 hz ex2 en2 => ?_, fun _ _ _ _ _ h => h.elim, fun _ _ _ _ _ h => h.elim, fun _ _ _ _ _ h => h.elim⟩
    obtain ⟨eρ, eB⟩ := hz
    subst eρ eB
    obtain ⟨_, _, rfl, h0, _, _, rfl, h1, _, _, rfl, h2, rfl⟩ := en2
    obtain ⟨u0, rfl, e0⟩ := h0 _ rfl
    obtain ⟨u2, rfl, q2⟩ := h2 _ rfl
    obtain rfl : u0 = .ref p := e0
    have e12 := ex.trans ex2
    obtain ⟨hp', gp'⟩ := e12.fr p _ hp gp ⟨(fun _ z => nomatch z), fun _ z => nomatch z⟩
    refine ⟨_, rfl, _, rfl, p, T.C_Walk, dx, [], rfl, hp', T.cl_Walk, T.na_Walk_runs, (by decide), ?_⟩
    refine hK [t] [u2] _ G2 _ hk' e12.le (fun a o z => ?_) (fun a o z n nb nt => ?_) gp' ?_ rfl ⟨_, _, rfl, q2, rfl⟩
    · rw [upd_ne (ne_of_none z gp')]
      exact e12.sub _ _ z
    · obtain ⟨z1, z2⟩ := e12.fr a o z n nt
      exact ⟨by rw [upd_ne nb]; exact z1, z2⟩
    · rw [upd_same]
      simp [putF]
end
end AW

set_option linter.all false
set_option maxRecDepth 100000
set_option maxHeartbeats 8000000
namespace AW
open PySem PySem.Spec PyProof.Rows L2 Fewest
variable [Tbs]
section
variable {P : Program} {w : World} {K : PySem.W.Frag} {mg : Str → Option Value} {base : Heap} [CDict K w "DIRECTIONS" L_DIRECTIONS]
abbrev wkD (T : Tx K mg) (ps : List Rn) : D := .ins T.C_Walk ["runs"] [.tup (ps.map prD)]
end
end AW

set_option linter.all false
set_option maxRecDepth 100000
set_option maxHeartbeats 8000000
namespace AW
open PySem PySem.Spec PyProof.Rows L2 Fewest
variable [Tbs]
section
variable {P : Program} {w : World} {K : PySem.W.Frag} {mg : Str → Option Value} {base : Heap} [CDict K w "DIRECTIONS" L_DIRECTIONS]
end
end AW

set_option linter.all false
set_option maxRecDepth 100000
set_option maxHeartbeats 8000000
namespace AW
open PySem PySem.Spec PyProof.Rows L2 Fewest
variable [Tbs]
section
variable {P : Program} {w : World} {K : PySem.W.Frag} {mg : Str → Option Value} {base : Heap} [CDict K w "DIRECTIONS" L_DIRECTIONS]
theorem joinF_len (ps : List Rn) : (joinF ps).length ≤ ps.length + 1 := by
  have h := jFold_len ps ([], "", 0)
  have h : (ps.foldl jStep ([], "", 0)).1.length ≤ 0 + ps.length := h
  unfold joinF jEnd
  split
  · rw [List.length_append, List.length_singleton]; omega
  · omega
end
end AW

set_option linter.all false
set_option maxRecDepth 100000
set_option maxHeartbeats 8000000
namespace AW
open PySem PySem.Spec PyProof.Rows L2 Fewest
variable [Tbs]
section
variable {P : Program} {w : World} {K : PySem.W.Frag} {mg : Str → Option Value} {base : Heap} [CDict K w "DIRECTIONS" L_DIRECTIONS]
def climbF (W H A : Int) (e n : Str) : List Rn := if H = 0 then [(e, W)] else
  [(e, A.fdiv H), (n, H - A.fmod H), (e, if W - A.fdiv H < 1 then W - A.fdiv H else 1), (n, A.fmod H), (e, W - A.fdiv H - (if W - A.fdiv H < 1 then W - A.fdiv H else 1))]
end
end AW

set_option linter.all false
set_option maxRecDepth 100000
set_option maxHeartbeats 8000000
namespace AW
open PySem PySem.Spec PyProof.Rows L2 Fewest
variable [Tbs]
section
variable {P : Program} {w : World} {K : PySem.W.Frag} {mg : Str → Option Value} {base : Heap} [CDict K w "DIRECTIONS" L_DIRECTIONS]
def eL (b : Bool) (x y : Str) : Str := if b = true then x else y
/-- the area, seen so that the place lies north-east -/
def upA (p : T3) : Int := if decide (p.1 < 0) = decide (p.2.1 < 0) then p.2.2 else -p.2.2
/-- the walk around the box, as it is told -/
def frameF (p : T3) (W H : Int) : List Rn :=
  if 2 * upA p < ab p.1 * ab p.2.1 then
    [(eL (decide (p.1 < 0)) "e" "w", W - ab p.1)] ++ (climbF H W (ab p.1 * ab p.2.1 - upA p) (eL (decide (p.2.1 < 0)) "s" "n") (eL (decide (p.1 < 0)) "w" "e") ++ [(eL (decide (p.2.1 < 0)) "n" "s", H - ab p.2.1)])
  else [(eL (decide (p.2.1 < 0)) "n" "s", H - ab p.2.1)] ++ (climbF W H (upA p) (eL (decide (p.1 < 0)) "w" "e") (eL (decide (p.2.1 < 0)) "s" "n") ++ [(eL (decide (p.1 < 0)) "e" "w", W - ab p.1)])
theorem climb_len (W H A : Int) (e n : Str) : (climbF W H A e n).length ≤ 5 := by
  unfold climbF
  split
  · show 1 ≤ 5; decide
  · show 5 ≤ 5; decide
end
end AW

set_option linter.all false
set_option maxRecDepth 100000
set_option maxHeartbeats 8000000
namespace AW
open PySem PySem.Spec PyProof.Rows L2 Fewest
variable [Tbs]
section
variable {P : Program} {w : World} {K : PySem.W.Frag} {mg : Str → Option Value} {base : Heap} [CDict K w "DIRECTIONS" L_DIRECTIONS]
abbrev plT (T : Tx K mg) (p : T3) : D := pl T p.1 p.2.1 p.2.2
noncomputable def stF (p : T3) : Int := (st_ex p.1 p.2.1 p.2.2).choose
theorem stF_st (p : T3) : St p.1 p.2.1 p.2.2 (stF p) := (st_ex p.1 p.2.1 p.2.2).choose_spec
theorem stF_eq {p : T3} {n : Int} (h : St p.1 p.2.1 p.2.2 n) : stF p = n := St.uniq (stF_st p) h
def pr_fewest_steps (T : Tx K mg) : Pr := fun ds B k e => ∃ p : T3, ds = [plT T p] ∧ Bd 3000 p.1 ∧ Bd 3000 p.2.1 ∧ Bd 3000 p.2.2 ∧ k (.int (stF p)) B
theorem okD_fewest_steps (T : Tx K mg) : FnOk P w K mg base (L2.CX P w) 2 T.a_fewest_steps T.d_fewest_steps P_fewest_steps (spD K (pr_fewest_steps T)) :=
  (ok_fewest_steps T).imp fun vs H Q E ⟨G, ds, B, k, e, hs, hr, ⟨p, ed, bx, by', ba, h⟩, hk, hx⟩ => by
    subst ed
    obtain ⟨v, _, rfl, rv, rfl⟩ := hr
    obtain ⟨a, rfl, hp⟩ := rv.pl
    exact ⟨a, p.1, p.2.1, p.2.2, rfl, hp.sub hs, bx, by', ba, fun m hm => by rw [← stF_eq hm]; exact hk _ _ _ _ _ h (Ext.refl hs) rfl⟩
def pr_steps (T : Tx K mg) : Pr := fun ds B k e => ∃ d, ds = [d] ∧ ((∃ p : T3, d = plT T p ∧ Bd 3000 p.1 ∧ Bd 3000 p.2.1 ∧ Bd 3000 p.2.2 ∧ k (.int (stF p)) B) ∨ (plainD d = true ∧ e T.C_BadPlace (some ((["value"] : List Str), [d])) B))
theorem okD_steps (T : Tx K mg) : FnOk P w K mg base (L2.CX P w) 4 T.a_steps T.d_steps P_steps (spD K (pr_steps T)) := by
  refine T.F_steps.okX sc_steps (spD_len fun ds B k e h => by obtain ⟨d, rfl, hk⟩ := h; rfl) (fun cdv A outer s H vs Q E hr h => ?_)
  have G_check_place : FnOk P w K mg base (L2.CX P w) _ _ _ _ _ := okD_check_place T
  have G_fewest_steps : FnOk P w K mg base (L2.CX P w) 2 _ _ _ _ := okD_fewest_steps T
  obtain ⟨G, ds, B, k, e, hs, hR, ⟨d, rfl, hk⟩, hK, hX⟩ := h
  refine ⟨_, (pss_cons (ps_expr (pe_call G_check_place (hr.mono (by decide)) (by rfl) T.g_check_place T.F_check_place.kp T.b_check_place .nil (passE (E := E)) (pa_cons (pv 0) pa_nil)))
 (pss_one (ps_ret (pe_call G_fewest_steps (hr.mono (by decide)) (by rfl) T.g_fewest_steps T.F_fewest_steps.kp T.b_fewest_steps .nil (passE (E := E)) (pa_cons (pv 0) pa_nil))))), run_body (ρ := [some d]) hs hR hK hX rfl ?_⟩
  rcases hk with ⟨p, rfl, b1, b2, b3, hk⟩ | ⟨pd, he⟩
  · refine ws_seq <| ws_drop <| we_callE <| wa_cons <| we_var rfl <| wa_nil ⟨_, rfl, .inl ⟨_, _, _, rfl, ?_⟩⟩
    exact ws_ret <| we_call <| wa_cons <| we_var rfl <| wa_nil ⟨p, rfl, b1, b2, b3, hk⟩
  · exact ws_seq <| ws_drop <| we_callE <| wa_cons <| we_var rfl <| wa_nil ⟨_, rfl, .inr ⟨pd, he⟩⟩
end
end AW

set_option linter.all false
set_option maxRecDepth 100000
set_option maxHeartbeats 8000000
namespace AW
open PySem PySem.Spec PyProof.Rows L2 Fewest
variable [Tbs]
section
variable {P : Program} {w : World} {K : PySem.W.Frag} {mg : Str → Option Value} {base : Heap} [CDict K w "DIRECTIONS" L_DIRECTIONS]
/-- the sides of the box that a walk of n steps runs around -/
def bxW (p : T3) (n : Int) : Int := bestW (ab p.1) (ab p.2.1) ((n - ab p.1 - ab p.2.1) / 2)
def bxH (p : T3) (n : Int) : Int := ab p.1 + ab p.2.1 + (n - ab p.1 - ab p.2.1) / 2 - bxW p n
end
end AW

set_option linter.all false
set_option maxRecDepth 100000
set_option maxHeartbeats 8000000
namespace AW
open PySem PySem.Spec PyProof.Rows L2 Fewest
variable [Tbs]
section
variable {P : Program} {w : World} {K : PySem.W.Frag} {mg : Str → Option Value} {base : Heap} [CDict K w "DIRECTIONS" L_DIRECTIONS]
end
end AW

set_option linter.all false
set_option maxRecDepth 100000
set_option maxHeartbeats 8000000
namespace AW
open PySem PySem.Spec PyProof.Rows L2 Fewest
variable [Tbs]
section
theorem dxdy (c : Str) : dx c * dy c = 0 := by
  unfold dx dy
  by_cases h1 : c = "e"
  · subst h1; decide +kernel
  · by_cases h2 : c = "w"
    · subst h2; decide +kernel
    · rw [if_neg h1, if_neg h2, Int.zero_mul]
theorem cStep0 (s : T3) (c : Str) : cStep s (c, 0) = s := by
  obtain ⟨x, y, z⟩ := s
  simp [cStep]
theorem cStep_add (s : T3) (c : Str) (a b : Int) : cStep (cStep s (c, a)) (c, b) = cStep s (c, a + b) := by
  obtain ⟨x, y, z⟩ := s
  have h := dxdy c
  simp only [cStep, Prod.mk.injEq]
  refine ⟨by rw [Int.mul_add]; omega, by rw [Int.mul_add]; omega, ?_⟩
  have e1 : (x + dx c * a) * dy c * b = x * dy c * b + dx c * dy c * a * b := by
    rw [Int.add_mul, Int.add_mul, Int.mul_assoc (dx c) a (dy c), Int.mul_comm a (dy c), ← Int.mul_assoc]
  rw [e1, h, Int.mul_add]
  simp only [Int.zero_mul]
  omega
theorem posF_snoc (ps : List Rn) (p : Rn) : posF (ps ++ [p]) = cStep (posF ps) p := by
  unfold posF
  rw [List.foldl_append]
  rfl
/-- what the state of joined_runs stands for -/
def jVal (s : List Rn × Str × Int) : T3 := cStep (posF s.1) (s.2.1, s.2.2)
def jSum (s : List Rn × Str × Int) : Int := (s.1.map (·.2)).sum + s.2.2
theorem jStep_val {s : List Rn × Str × Int} {p : Rn} (h0 : 0 ≤ s.2.2) (hp : 0 ≤ p.2) : jVal (jStep s p) = cStep (jVal s) p ∧ jSum (jStep s p) = jSum s + p.2 ∧ 0 ≤ (jStep s p).2.2 := by
  obtain ⟨rs, l, c⟩ := s
  obtain ⟨q, t⟩ := p
  have h0 : 0 ≤ c := h0
  have hp : 0 ≤ t := hp
  unfold jStep
  by_cases h1 : t = 0
  · subst h1
    rw [if_pos rfl]
    exact ⟨(cStep0 _ _).symm, by simp, h0⟩
  · rw [if_neg h1]
    by_cases h2 : q = l
    · subst h2
      rw [if_pos rfl]
      refine ⟨(cStep_add _ _ _ _).symm, ?_, by show 0 ≤ c + t; omega⟩
      show (rs.map (·.2)).sum + (c + t) = (rs.map (·.2)).sum + c + t
      omega
    · rw [if_neg h2]
      by_cases h3 : c > 0
      · rw [if_pos h3]
        refine ⟨?_, ?_, hp⟩
        · show cStep (posF (rs ++ [(l, c)])) (q, t) = _
          rw [posF_snoc]; rfl
        · show ((rs ++ [(l, c)]).map (·.2)).sum + t = _
          rw [List.map_append, List.sum_append]
          show (rs.map (·.2)).sum + (c + 0) + t = (rs.map (·.2)).sum + c + t
          omega
      · rw [if_neg h3]
        obtain rfl : c = 0 := by omega
        refine ⟨?_, ?_, hp⟩
        · show cStep (posF rs) (q, t) = cStep (cStep (posF rs) (l, 0)) (q, t)
          rw [cStep0]
        · show (rs.map (·.2)).sum + t = (rs.map (·.2)).sum + 0 + t
          omega
theorem jFold_val : ∀ (ps : List Rn) (s : List Rn × Str × Int), 0 ≤ s.2.2 → (∀ p ∈ ps, 0 ≤ p.2) → jVal (ps.foldl jStep s) = ps.foldl cStep (jVal s) ∧ jSum (ps.foldl jStep s) = jSum s + (ps.map (·.2)).sum ∧ 0 ≤ (ps.foldl jStep s).2.2
  | [], s, h, _ => ⟨rfl, by simp, h⟩
  | p :: ps, s, h, hp => by
    obtain ⟨e1, e2, e3⟩ := jStep_val h (hp p (List.mem_cons_self ..))
    obtain ⟨f1, f2, f3⟩ := jFold_val ps (jStep s p) e3 fun q hq => hp q (List.mem_cons_of_mem _ hq)
    rw [List.foldl_cons, List.foldl_cons, List.map_cons, List.sum_cons]
    exact ⟨by rw [f1, e1], by rw [f2, e2]; omega, f3⟩
/-- joined runs lead where the pairs lead, and are as long -/
theorem joinF_val {ps : List Rn} (h : ∀ p ∈ ps, 0 ≤ p.2) : posF (joinF ps) = posF ps ∧ ((joinF ps).map (·.2)).sum = (ps.map (·.2)).sum := by
  obtain ⟨f1, f2, f3⟩ := jFold_val ps ([], "", 0) (Int.le_refl _) h
  have f1 : jVal (ps.foldl jStep ([], "", 0)) = posF ps := by
    rw [f1]
    show ps.foldl cStep (cStep (0, 0, 0) ("", 0)) = _
    rw [cStep0]; rfl
  have f2 : jSum (ps.foldl jStep ([], "", 0)) = (ps.map (·.2)).sum := by
    rw [f2]
    show (0 : Int) + 0 + _ = _
    omega
  unfold joinF
  generalize ps.foldl jStep ([], "", 0) = s at f1 f2 f3 ⊢
  unfold jEnd
  by_cases h3 : s.2.2 > 0
  · rw [if_pos h3, posF_snoc, List.map_append, List.sum_append]
    refine ⟨f1, ?_⟩
    show (s.1.map (·.2)).sum + (s.2.2 + 0) = _
    unfold jSum at f2
    omega
  · rw [if_neg h3]
    have hz : s.2.2 = 0 := by omega
    unfold jVal at f1
    unfold jSum at f2
    rw [hz, cStep0] at f1
    exact ⟨f1, by omega⟩
end
end AW

set_option linter.all false
set_option maxHeartbeats 2000000
namespace AW
open PySem PySem.Spec PyProof.Rows L2 Fewest
variable [Tbs]
theorem frame_pos1 {e n s w : Str} {se sn : Int} (he : dx e = se ∧ dy e = 0) (hn : dx n = 0 ∧ dy n = sn) (hs : dx s = 0 ∧ dy s = -sn) (hw : dx w = -se ∧ dy w = 0) {W H X Y A : Int} (hH : H ≠ 0)
    (hb : (if W - A.fdiv H < 1 then W - A.fdiv H else 1) * A.fmod H = A.fmod H) : posF ([(s, H - Y)] ++ (climbF W H A e n ++ [(w, W - X)])) = (se * X, sn * Y, se * sn * A) := by
  have hA : H * A.fdiv H + A.fmod H = A := Int.mul_fdiv_add_fmod A H
  unfold climbF
  rw [if_neg hH]
  generalize (if W - A.fdiv H < 1 then W - A.fdiv H else 1) = b at hb ⊢
  generalize A.fdiv H = f at hA ⊢
  generalize A.fmod H = x at hA hb ⊢
  subst hA
  simp only [posF, List.cons_append, List.nil_append, List.foldl_cons, List.foldl_nil, cStep, he.1, he.2, hn.1, hn.2, hs.1, hs.2, hw.1, hw.2, Int.zero_mul, Int.mul_zero, Int.add_zero, Int.zero_add, Prod.mk.injEq]
  refine ⟨?_, ?_, ?_⟩
  · simp only [Int.mul_sub, Int.neg_mul, Int.mul_add]; omega
  · simp only [Int.mul_sub, Int.neg_mul, Int.mul_add]; omega
  · have k1 : se * b * sn * x = se * sn * x := by rw [Int.mul_assoc se b sn, Int.mul_comm b sn, ← Int.mul_assoc, Int.mul_assoc, hb]
    have k2 : se * f * sn * H = se * sn * (H * f) := by
      rw [Int.mul_assoc se f sn, Int.mul_comm f sn, ← Int.mul_assoc, Int.mul_assoc, Int.mul_comm f H]
    simp only [Int.mul_sub, Int.mul_add, Int.add_mul]
    rw [k1, k2]
    omega
theorem frame_pos2 {e n s w : Str} {se sn : Int} (he : dx e = se ∧ dy e = 0) (hn : dx n = 0 ∧ dy n = sn) (hs : dx s = 0 ∧ dy s = -sn) (hw : dx w = -se ∧ dy w = 0) {W H X Y A : Int} (hW : W ≠ 0)
    (hb : (if H - A.fdiv W < 1 then H - A.fdiv W else 1) * A.fmod W = A.fmod W) : posF ([(w, W - X)] ++ (climbF H W A n e ++ [(s, H - Y)])) = (se * X, sn * Y, se * sn * (X * Y - A)) := by
  have hA : W * A.fdiv W + A.fmod W = A := Int.mul_fdiv_add_fmod A W
  unfold climbF
  rw [if_neg hW]
  generalize (if H - A.fdiv W < 1 then H - A.fdiv W else 1) = b at hb ⊢
  generalize A.fdiv W = f at hA ⊢
  generalize A.fmod W = x at hA hb ⊢
  subst hA
  simp only [posF, List.cons_append, List.nil_append, List.foldl_cons, List.foldl_nil, cStep, he.1, he.2, hn.1, hn.2, hs.1, hs.2, hw.1, hw.2, Int.zero_mul, Int.mul_zero, Int.add_zero, Int.zero_add, Prod.mk.injEq]
  refine ⟨?_, ?_, ?_⟩
  · simp only [Int.mul_sub, Int.neg_mul, Int.mul_add]; omega
  · simp only [Int.mul_sub, Int.neg_mul, Int.mul_add]; omega
  · have sw : ∀ a c : Int, se * a * sn * c = se * sn * (a * c) := fun a c => by
      rw [Int.mul_assoc se a sn, Int.mul_comm a sn, ← Int.mul_assoc, Int.mul_assoc]
    have xb : x * b = x := by rw [Int.mul_comm]; exact hb
    simp only [Int.mul_sub, Int.mul_add, Int.add_mul, Int.sub_mul, Int.neg_mul, Int.mul_neg, sw, xb]
    omega
/-- the steps of the climb: none below 0; the bend is 1 or nothing is left over -/
theorem climb_ok {W H A : Int} (e n : Str) (hH : 0 ≤ H) (hW : 0 ≤ W) (h0 : 0 ≤ A) (hA : A ≤ W * H) : (∀ p ∈ climbF W H A e n, (p.1 = e ∨ p.1 = n) ∧ 0 ≤ p.2) ∧ ((climbF W H A e n).map (·.2)).sum = W + H ∧
    (H ≠ 0 → (if W - A.fdiv H < 1 then W - A.fdiv H else 1) * A.fmod H = A.fmod H) := by
  by_cases z : H = 0
  · subst z
    have ec : climbF W 0 A e n = [(e, W)] := if_pos rfl
    rw [ec]
    refine ⟨fun p hp => ?_, by simp, fun h => absurd rfl h⟩
    rw [List.mem_singleton] at hp
    subst hp
    exact ⟨.inl rfl, hW⟩
  · have hp : 0 < H := by omega
    have m0 := Int.fmod_nonneg_of_pos A hp
    have m1 := Int.fmod_lt_of_pos A hp
    have f0 : 0 ≤ A.fdiv H := Int.fdiv_nonneg h0 hH
    have hq : H * A.fdiv H + A.fmod H = A := Int.mul_fdiv_add_fmod A H
    have f1 : A.fdiv H ≤ W := by
      by_cases c : A.fdiv H ≤ W
      · exact c
      · have : H * (W + 1) ≤ H * A.fdiv H := Int.mul_le_mul_of_nonneg_left (by omega) hH
        rw [Int.mul_add, Int.mul_one, Int.mul_comm H W] at this
        omega
    have hx : W - A.fdiv H < 1 → A.fmod H = 0 := fun c => by
      have : A.fdiv H = W := by omega
      rw [this, Int.mul_comm] at hq
      omega
    unfold climbF
    rw [if_neg z]
    generalize A.fdiv H = f at *
    generalize A.fmod H = x at *
    have hb : (if W - f < 1 then W - f else 1) * x = x := by
      split
      · rename_i c; rw [hx c]; omega
      · rw [Int.one_mul]
    have b0 : 0 ≤ (if W - f < 1 then W - f else 1) ∧ (if W - f < 1 then W - f else 1) ≤ W - f := by split <;> omega
    generalize (if W - f < 1 then W - f else 1) = b at *
    refine ⟨fun p hp => ?_, ?_, fun _ => hb⟩
    · simp only [List.mem_cons, List.not_mem_nil, or_false] at hp
      rcases hp with rfl | rfl | rfl | rfl | rfl
      · exact ⟨.inl rfl, f0⟩
      · exact ⟨.inr rfl, by show 0 ≤ H - x; omega⟩
      · exact ⟨.inl rfl, b0.1⟩
      · exact ⟨.inr rfl, m0⟩
      · exact ⟨.inl rfl, by show 0 ≤ W - f - b; omega⟩
    · simp only [List.map_cons, List.map_nil, List.sum_cons, List.sum_nil]
      omega
end AW

set_option linter.all false
set_option maxHeartbeats 2000000
namespace AW
open PySem PySem.Spec PyProof.Rows L2 Fewest
variable [Tbs]
abbrev mu (p q : T3) : T3 := (p.1 + q.1, p.2.1 + q.2.1, p.2.2 + q.2.2 + p.1 * q.2.1)
theorem mu_assoc (p q r : T3) : mu (mu p q) r = mu p (mu q r) := by
  obtain ⟨a, b, c⟩ := p; obtain ⟨d, e, f⟩ := q; obtain ⟨g, h, i⟩ := r
  simp only [mu, Prod.mk.injEq]
  refine ⟨by omega, by omega, ?_⟩
  rw [Int.add_mul, Int.mul_add]; omega
theorem mu_home (p : T3) : mu p (0, 0, 0) = p ∧ mu (0, 0, 0) p = p := by
  obtain ⟨a, b, c⟩ := p
  simp [mu]
theorem st_mu (p q : T3) : stF (mu p q) ≤ stF p + stF q := (stF_st p).triangle (stF_st q) (stF_st (mu p q))
theorem st_nn (p : T3) : 0 ≤ stF p := (stF_st p).pos
theorem st_home (p : T3) : stF p = 0 ↔ p = (0, 0, 0) := by
  obtain ⟨a, b, c⟩ := p
  rw [Prod.mk.injEq, Prod.mk.injEq]
  exact (stF_st (a, b, c)).home
theorem st_home0 : stF (0, 0, 0) = 0 := (st_home _).mpr rfl
def GoodR (ps : List Rn) : Prop := ∀ p ∈ ps, p.1 ∈ chS "enws" ∧ 0 ≤ p.2
abbrev sumR (ps : List Rn) : Int := (ps.map (·.2)).sum
theorem GoodR.tail {p : Rn} {ps : List Rn} (h : GoodR (p :: ps)) : GoodR ps := fun q hq => h q (List.mem_cons_of_mem _ hq)
theorem GoodR.head {p : Rn} {ps : List Rn} (h : GoodR (p :: ps)) : p.1 ∈ chS "enws" ∧ 0 ≤ p.2 := h p (List.mem_cons_self ..)
theorem GoodR.nn {ps : List Rn} (h : GoodR ps) : ∀ p ∈ ps, 0 ≤ p.2 := fun p hp => (h p hp).2
theorem GoodR.append {ps qs : List Rn} (h : GoodR ps) (g : GoodR qs) : GoodR (ps ++ qs) := fun p hp => (List.mem_append.mp hp).elim (h p) (g p)
theorem GoodR.take {ps : List Rn} (h : GoodR ps) (i : Nat) : GoodR (ps.take i) := fun p hp => h p (List.mem_of_mem_take hp)
theorem sumR_nn : ∀ {ps : List Rn}, GoodR ps → 0 ≤ sumR ps
  | [], _ => Int.le_refl _
  | p :: ps, h => by
    have h1 := sumR_nn h.tail
    have h2 := h.head.2
    show 0 ≤ (List.sum (p.2 :: ps.map (·.2)))
    rw [List.sum_cons]
    exact Int.add_nonneg h2 h1
theorem sumR_cons (p : Rn) (ps : List Rn) : sumR (p :: ps) = p.2 + sumR ps := List.sum_cons
theorem sumR_append (ps qs : List Rn) : sumR (ps ++ qs) = sumR ps + sumR qs := by
  show ((ps ++ qs).map (·.2)).sum = _
  rw [List.map_append, List.sum_append]
theorem sumR_take {ps : List Rn} (h : GoodR ps) (i : Nat) : sumR (ps.take i) ≤ sumR ps := by
  have h1 := List.take_append_drop i ps
  have h2 : sumR ps = sumR (ps.take i) + sumR (ps.drop i) := by rw [← sumR_append, h1]
  have h3 := sumR_nn (ps := ps.drop i) (fun p hp => h p (List.mem_of_mem_drop hp))
  omega
theorem cStep_mu (s : T3) (p : Rn) : cStep s p = mu s (posF [p]) := by
  obtain ⟨x, y, z⟩ := s
  simp only [cStep, posF, mu, List.foldl_cons, List.foldl_nil, Int.zero_mul, Int.zero_add, Int.add_zero, Prod.mk.injEq, true_and]
  rw [Int.mul_assoc]
theorem fold_mu : ∀ (ps : List Rn) (s : T3), ps.foldl cStep s = mu s (posF ps)
  | [], s => (mu_home s).1.symm
  | p :: ps, s => by
    have e1 : posF (p :: ps) = mu (posF [p]) (posF ps) := by
      show ps.foldl cStep (cStep (0, 0, 0) p) = _
      rw [fold_mu ps]
      rfl
    rw [List.foldl_cons, fold_mu ps, e1, cStep_mu, mu_assoc]
theorem posF_append (ps qs : List Rn) : posF (ps ++ qs) = mu (posF ps) (posF qs) := by
  unfold posF
  rw [List.foldl_append]
  exact fold_mu qs _
theorem posF_cons (p : Rn) (qs : List Rn) : posF (p :: qs) = mu (posF [p]) (posF qs) := posF_append [p] qs
theorem posF_run (c : Str) (t : Int) : posF [(c, t)] = (dx c * t, dy c * t, 0) := by simp [posF, cStep]
theorem dir_one {c : Str} (h : c ∈ chS "enws") : (dx c = 1 ∧ dy c = 0) ∨ (dx c = -1 ∧ dy c = 0) ∨ (dx c = 0 ∧ dy c = 1) ∨ (dx c = 0 ∧ dy c = -1) := by
  rcases mem_enws h with rfl | rfl | rfl | rfl
  · exact .inl (by decide +kernel)
  · exact .inr (.inr (.inl (by decide +kernel)))
  · exact .inr (.inl (by decide +kernel))
  · exact .inr (.inr (.inr (by decide +kernel)))
theorem st_line (a b : Int) (h : a = 0 ∨ b = 0) : stF (a, b, 0) = ab a + ab b := by
  have e : a * b = 0 := by rcases h with rfl | rfl <;> simp
  have e2 : ab a * ab b = 0 := by rcases h with rfl | rfl <;> simp [ab]
  refine stF_eq ⟨⟨ab a, ab b, ⟨Int.le_refl _, Int.le_refl _, ?_⟩, by show _ = _ - ab a - ab b; omega⟩, fun p q bx => ?_⟩
  · rw [e2]
    show ab (2 * 0 - a * b) + 0 ≤ _
    rw [e]
    decide
  · have h1 : ab a ≤ p := bx.1
    have h2 : ab b ≤ q := bx.2.1
    show ab a + ab b ≤ _ - ab a - ab b
    omega
theorem st_run {c : Str} {t : Int} (h : c ∈ chS "enws") (t0 : 0 ≤ t) : stF (posF [(c, t)]) = t := by
  rw [posF_run]
  rcases dir_one h with ⟨h1, h2⟩ | ⟨h1, h2⟩ | ⟨h1, h2⟩ | ⟨h1, h2⟩
  all_goals
    rw [h1, h2, st_line _ _ (by omega)]
    unfold ab
    omega
/-- no walk is shorter than the steps of its place -/
theorem st_walk : ∀ {ps : List Rn}, GoodR ps → stF (posF ps) ≤ sumR ps
  | [], _ => by rw [show posF [] = (0, 0, 0) from rfl, st_home0]; exact Int.le_refl _
  | p :: ps, h => by
    have h1 := st_walk h.tail
    have h2 := st_mu (posF [p]) (posF ps)
    have h3 : stF (posF [p]) = p.2 := st_run h.head.1 h.head.2
    rw [posF_cons, sumR_cons]
    omega
theorem st_abs (p : T3) : ab p.1 + ab p.2.1 ≤ stF p := Least.ge (stF_st p)
theorem posF_abs {ps : List Rn} (h : GoodR ps) : ab (posF ps).1 ≤ sumR ps ∧ ab (posF ps).2.1 ≤ sumR ps := by
  have h1 := st_walk h
  have h2 := st_abs (posF ps)
  unfold ab at *
  omega
theorem good_le : ∀ {ps : List Rn}, GoodR ps → ∀ p ∈ ps, p.2 ≤ sumR ps
  | [], _, _, hp => by cases hp
  | q :: ps, h, p, hp => by
    have h1 := sumR_nn h.tail
    have h2 := h.head.2
    rw [sumR_cons]
    rcases List.mem_cons.mp hp with rfl | hp
    · omega
    · have := good_le h.tail p hp
      omega
/-- good runs whose number of steps is not too great are those of corners -/
theorem RnOk.of {ps : List Rn} (h : GoodR ps) (hl : ps.length ≤ 1000000) (hs : Bd 3000 (sumR ps)) : RnOk ps := by
  have s0 := sumR_nn h
  refine ⟨hl, fun p hp => ⟨(h p hp).1, ?_⟩, fun i => ?_⟩
  · have h1 := good_le h p hp
    have h2 := (h p hp).2
    unfold Bd at *
    omega
  · have h1 := (posF_abs (h.take i)).1
    have h2 := sumR_take h i
    unfold ab at h1
    unfold Bd at *
    omega
theorem jStep_good {s : List Rn × Str × Int} {p : Rn} (hs : GoodR s.1) (h0 : 0 ≤ s.2.2) (hl : s.2.2 > 0 → s.2.1 ∈ chS "enws") (hp : p.1 ∈ chS "enws" ∧ 0 ≤ p.2) : GoodR (jStep s p).1 ∧ 0 ≤ (jStep s p).2.2 ∧ ((jStep s p).2.2 > 0 → (jStep s p).2.1 ∈ chS "enws") := by
  obtain ⟨rs, l, c⟩ := s
  obtain ⟨q, t⟩ := p
  have h0 : 0 ≤ c := h0
  have hp2 : 0 ≤ t := hp.2
  unfold jStep
  by_cases h1 : t = 0
  · subst h1
    rw [if_pos rfl]
    exact ⟨hs, h0, hl⟩
  · rw [if_neg h1]
    by_cases h2 : q = l
    · subst h2
      rw [if_pos rfl]
      exact ⟨hs, by show 0 ≤ c + t; omega, fun _ => hp.1⟩
    · rw [if_neg h2]
      refine ⟨?_, hp2, fun _ => hp.1⟩
      show GoodR (if c > 0 then rs ++ [(l, c)] else rs)
      split
      · rename_i h3
        exact hs.append fun x hx => by
          rw [List.mem_singleton] at hx
          subst hx
          exact ⟨hl h3, h0⟩
      · exact hs
theorem jFold_good : ∀ (ps : List Rn) (s : List Rn × Str × Int), GoodR s.1 → 0 ≤ s.2.2 → (s.2.2 > 0 → s.2.1 ∈ chS "enws") → GoodR ps → GoodR (ps.foldl jStep s).1 ∧ 0 ≤ (ps.foldl jStep s).2.2 ∧ ((ps.foldl jStep s).2.2 > 0 → (ps.foldl jStep s).2.1 ∈ chS "enws")
  | [], s, a, b, c, _ => ⟨a, b, c⟩
  | p :: ps, s, a, b, c, h => by
    obtain ⟨a1, b1, c1⟩ := jStep_good a b c h.head
    exact jFold_good ps _ a1 b1 c1 h.tail
theorem joinF_good {ps : List Rn} (h : GoodR ps) : GoodR (joinF ps) := by
  obtain ⟨a, b, c⟩ := jFold_good ps ([], "", 0) (fun _ hp => by cases hp) (Int.le_refl _) (fun h => absurd h (by decide)) h
  unfold joinF
  generalize ps.foldl jStep ([], "", 0) = s at a b c ⊢
  unfold jEnd
  split
  · rename_i h3
    exact a.append fun x hx => by
      rw [List.mem_singleton] at hx
      subst hx
      exact ⟨c h3, b⟩
  · exact a
theorem joinF_pos {ps : List Rn} (h : GoodR ps) : posF (joinF ps) = posF ps := (joinF_val h.nn).1
theorem joinF_sum {ps : List Rn} (h : GoodR ps) : sumR (joinF ps) = sumR ps := (joinF_val h.nn).2
def mn (a b : Int) : Int := if b < a then b else a
def hL : List Rn → Int → List Rn
  | [], _ => []
  | p :: ps, n => (p.1, mn p.2 n) :: hL ps (n - mn p.2 n)
end AW

set_option linter.all false
set_option maxHeartbeats 2000000
namespace AW
open PySem PySem.Spec PyProof.Rows L2 Fewest
variable [Tbs]
theorem eL_cases (b : Bool) (x y : Str) : eL b x y = x ∨ eL b x y = y := by
  unfold eL; split
  · exact .inl rfl
  · exact .inr rfl
theorem dirE (b : Bool) : (dx (eL b "w" "e") = (if b = true then -1 else 1) ∧ dy (eL b "w" "e") = 0) ∧ (dx (eL b "e" "w") = -(if b = true then -1 else 1) ∧ dy (eL b "e" "w") = 0) ∧ (dx (eL b "s" "n") = 0 ∧ dy (eL b "s" "n") = (if b = true then -1 else 1)) ∧ (dx (eL b "n" "s") = 0 ∧ dy (eL b "n" "s") = -(if b = true then -1 else 1)) := by
  cases b <;> decide +kernel
theorem mem_eL {b : Bool} {x y : Str} (hx : x ∈ chS "enws") (hy : y ∈ chS "enws") : eL b x y ∈ chS "enws" := by
  rcases eL_cases b x y with h | h
  · rw [h]; exact hx
  · rw [h]; exact hy
theorem in_e : ("e" : Str) ∈ chS "enws" := by rw [chS_enws]; simp
theorem in_n : ("n" : Str) ∈ chS "enws" := by rw [chS_enws]; simp
theorem in_w : ("w" : Str) ∈ chS "enws" := by rw [chS_enws]; simp
theorem in_s : ("s" : Str) ∈ chS "enws" := by rw [chS_enws]; simp
theorem sgn_ab (x : Int) : (if decide (x < 0) = true then -1 else 1) * ab x = x := by
  unfold ab
  by_cases h : x < 0
  · rw [if_pos (decide_eq_true h)]; omega
  · rw [if_neg (by simp only [decide_eq_true_eq]; exact h)]; omega
theorem up_ok {x y a g : Int} (hb : ab (2 * a - x * y) + ab x * ab y ≤ 2 * g) : (if decide (x < 0) = true then -1 else 1) * (if decide (y < 0) = true then -1 else 1) * upA (x, y, a) = a ∧ 2 * upA (x, y, a) ≤ 2 * g ∧ 2 * (ab x * ab y - upA (x, y, a)) ≤ 2 * g := by
  have e1 : ab x * ab y = ab (x * y) := by unfold ab; rw [Int.natAbs_mul, Int.natCast_mul]
  have hu : upA (x, y, a) = (if decide (x < 0) = decide (y < 0) then a else -a) := rfl
  rw [e1] at hb ⊢
  rw [hu]
  by_cases cx : x < 0
  · by_cases cy : y < 0
    · have h : 0 ≤ x * y := by
        have := Int.mul_nonneg (show 0 ≤ -x by omega) (show 0 ≤ -y by omega)
        rwa [Int.neg_mul_neg] at this
      rw [decide_eq_true cx, decide_eq_true cy]
      simp only [reduceCtorEq, ↓reduceIte]
      clear hu e1
      generalize x * y = z at *
      unfold ab at *
      exact ⟨by omega, by omega, by omega⟩
    · have h : x * y ≤ 0 := Int.mul_nonpos_of_nonpos_of_nonneg (by omega) (by omega)
      rw [decide_eq_true cx, decide_eq_false cy]
      simp only [reduceCtorEq, ↓reduceIte]
      clear hu e1
      generalize x * y = z at *
      unfold ab at *
      exact ⟨by omega, by omega, by omega⟩
  · by_cases cy : y < 0
    · have h : x * y ≤ 0 := Int.mul_nonpos_of_nonneg_of_nonpos (by omega) (by omega)
      rw [decide_eq_false cx, decide_eq_true cy]
      simp only [reduceCtorEq, ↓reduceIte]
      clear hu e1
      generalize x * y = z at *
      unfold ab at *
      exact ⟨by omega, by omega, by omega⟩
    · have h : 0 ≤ x * y := Int.mul_nonneg (by omega) (by omega)
      rw [decide_eq_false cx, decide_eq_false cy]
      simp only [reduceCtorEq, ↓reduceIte]
      clear hu e1
      generalize x * y = z at *
      unfold ab at *
      exact ⟨by omega, by omega, by omega⟩
/-- the walk around a box that holds the place -/
theorem frame_ok' {x y a W H : Int} (hW : ab x ≤ W) (hH : ab y ≤ H) (hb : ab (2 * a - x * y) + ab x * ab y ≤ 2 * (W * H)) :
    GoodR (frameF (x, y, a) W H) ∧ sumR (frameF (x, y, a) W H) = 2 * (W + H) - ab x - ab y ∧ posF (frameF (x, y, a) W H) = (x, y, a) ∧ (frameF (x, y, a) W H).length ≤ 7 := by
  have x0 : 0 ≤ ab x := by unfold ab; omega
  have y0 : 0 ≤ ab y := by unfold ab; omega
  have hx := sgn_ab x
  have hy := sgn_ab y
  have xy := up_ok hb
  obtain ⟨xy, k1, k2⟩ := xy
  have p0 : 0 ≤ ab x * ab y := Int.mul_nonneg x0 y0
  have hxn : (if decide (x < 0) = true then -1 else 1 : Int) = 1 ∨ (if decide (x < 0) = true then -1 else 1 : Int) = -1 := by split <;> simp
  have hyn : (if decide (y < 0) = true then -1 else 1 : Int) = 1 ∨ (if decide (y < 0) = true then -1 else 1 : Int) = -1 := by split <;> simp
  obtain ⟨dE, dW, _, _⟩ := dirE (decide (x < 0))
  obtain ⟨_, _, dN, dS⟩ := dirE (decide (y < 0))
  have iE : eL (decide (x < 0)) "w" "e" ∈ chS "enws" := mem_eL in_w in_e
  have iW : eL (decide (x < 0)) "e" "w" ∈ chS "enws" := mem_eL in_e in_w
  have iN : eL (decide (y < 0)) "s" "n" ∈ chS "enws" := mem_eL in_s in_n
  have iS : eL (decide (y < 0)) "n" "s" ∈ chS "enws" := mem_eL in_n in_s
  have efr : frameF (x, y, a) W H = (if 2 * upA (x, y, a) < ab x * ab y then
    [(eL (decide (x < 0)) "e" "w", W - ab x)] ++ (climbF H W (ab x * ab y - upA (x, y, a)) (eL (decide (y < 0)) "s" "n") (eL (decide (x < 0)) "w" "e") ++ [(eL (decide (y < 0)) "n" "s", H - ab y)])
  else [(eL (decide (y < 0)) "n" "s", H - ab y)] ++ (climbF W H (upA (x, y, a)) (eL (decide (x < 0)) "w" "e") (eL (decide (y < 0)) "s" "n") ++ [(eL (decide (x < 0)) "e" "w", W - ab x)])) := rfl
  rw [efr]
  show _ ∧ _ = 2 * (W + H) - ab x - ab y ∧ _ = (x, y, a) ∧ _
  clear efr
  generalize eL (decide (x < 0)) "w" "e" = e at *
  generalize eL (decide (x < 0)) "e" "w" = w at *
  generalize eL (decide (y < 0)) "s" "n" = n at *
  generalize eL (decide (y < 0)) "n" "s" = s at *
  generalize (if decide (x < 0) = true then -1 else 1 : Int) = sx at *
  generalize (if decide (y < 0) = true then -1 else 1 : Int) = sy at *
  generalize upA (x, y, a) = u at *
  have W0 : 0 ≤ W := by omega
  have H0 : 0 ≤ H := by omega
  by_cases c : 2 * u < ab x * ab y
  · rw [if_pos c]
    have hA : ab x * ab y - u ≤ H * W := by rw [Int.mul_comm H W]; omega
    obtain ⟨g1, g2, g3⟩ := climb_ok (W := H) (H := W) (A := ab x * ab y - u) n e W0 H0 (by omega) hA
    have Wz : W ≠ 0 := fun z => by
      subst z
      have : ab x = 0 := by omega
      rw [this, Int.zero_mul] at *
      rw [Int.mul_zero] at hA
      omega
    refine ⟨?_, ?_, ?_, ?_⟩
    · intro q hq
      rcases List.mem_append.mp hq with hq | hq
      · rw [List.mem_singleton] at hq; subst hq
        exact ⟨iW, by show 0 ≤ W - ab x; omega⟩
      rcases List.mem_append.mp hq with hq | hq
      · obtain ⟨h1, h2⟩ := g1 q hq
        exact ⟨h1.elim (fun h => h ▸ iN) (fun h => h ▸ iE), h2⟩
      · rw [List.mem_singleton] at hq; subst hq
        exact ⟨iS, by show 0 ≤ H - ab y; omega⟩
    · rw [sumR_append, sumR_append]
      show (W - ab x + 0) + (_ + (H - ab y + 0)) = _
      have g2 : sumR (climbF H W (ab x * ab y - u) n e) = H + W := g2
      rw [g2]; omega
    · rw [frame_pos2 dE dN dS dW Wz (g3 Wz), hx, hy, show ab x * ab y - (ab x * ab y - u) = u by omega, xy]
    · rw [List.length_append, List.length_append]
      have := climb_len H W (ab x * ab y - u) n e
      show 1 + (_ + 1) ≤ 7
      omega
  · rw [if_neg c]
    have hA : u ≤ W * H := by omega
    obtain ⟨g1, g2, g3⟩ := climb_ok (W := W) (H := H) (A := u) e n H0 W0 (by omega) hA
    refine ⟨?_, ?_, ?_, ?_⟩
    · intro q hq
      rcases List.mem_append.mp hq with hq | hq
      · rw [List.mem_singleton] at hq; subst hq
        exact ⟨iS, by show 0 ≤ H - ab y; omega⟩
      rcases List.mem_append.mp hq with hq | hq
      · obtain ⟨h1, h2⟩ := g1 q hq
        exact ⟨h1.elim (fun h => h ▸ iE) (fun h => h ▸ iN), h2⟩
      · rw [List.mem_singleton] at hq; subst hq
        exact ⟨iW, by show 0 ≤ W - ab x; omega⟩
    · rw [sumR_append, sumR_append]
      show (H - ab y + 0) + (_ + (W - ab x + 0)) = _
      have g2 : sumR (climbF W H u e n) = W + H := g2
      rw [g2]; omega
    · by_cases Hz : H = 0
      · subst Hz
        have y0' : ab y = 0 := by omega
        have yz : y = 0 := by unfold ab at y0'; omega
        have uz : u = 0 := by
          rw [y0', Int.mul_zero] at c
          rw [Int.mul_zero] at hA
          omega
        have az : a = 0 := by rw [uz, Int.mul_zero] at xy; exact xy.symm
        have ec : climbF W 0 u e n = [(e, W)] := if_pos rfl
        rw [ec, y0', show (0 : Int) - 0 = 0 from rfl, posF_append, posF_append, posF_run, posF_run, posF_run, dE.1, dE.2, dW.1, dW.2]
        simp only [mu, Int.mul_zero, Int.zero_mul, Int.add_zero, Int.zero_add, Prod.mk.injEq]
        refine ⟨?_, yz.symm, az.symm⟩
        rw [Int.mul_sub, Int.neg_mul, Int.neg_mul, hx]; omega
      · rw [frame_pos1 dE dN dS dW Hz (g3 Hz), hx, hy, xy]
    · rw [List.length_append, List.length_append]
      have := climb_len W H u e n
      show 1 + (_ + 1) ≤ 7
      omega
theorem frame_ok {p : T3} {W H : Int} (hW : ab p.1 ≤ W) (hH : ab p.2.1 ≤ H) (hb : ab (2 * p.2.2 - p.1 * p.2.1) + ab p.1 * ab p.2.1 ≤ 2 * (W * H)) :
    GoodR (frameF p W H) ∧ sumR (frameF p W H) = 2 * (W + H) - ab p.1 - ab p.2.1 ∧ posF (frameF p W H) = p ∧ (frameF p W H).length ≤ 7 := frame_ok' hW hH hb
/-- the built walk of n steps, where there is one -/
theorem built_ok {p : T3} {n : Int} (hn : stF p ≤ n) (hp : (n - stF p) % 2 = 0) :
    ab p.1 + ab p.2.1 ≤ n ∧ (n - ab p.1 - ab p.2.1) % 2 = 0 ∧ 0 ≤ bxW p n ∧ bxW p n ≤ n ∧ 0 ≤ bxH p n ∧ bxH p n ≤ n ∧ GoodR (frameF p (bxW p n) (bxH p n)) ∧ sumR (frameF p (bxW p n) (bxH p n)) = n ∧ posF (frameF p (bxW p n) (bxH p n)) = p ∧ (frameF p (bxW p n) (bxH p n)).length ≤ 7 := by
  have g := st_abs p
  have q := Least.par (stF_st p)
  have x0 : 0 ≤ ab p.1 := by unfold ab; omega
  have y0 : 0 ≤ ab p.2.1 := by unfold ab; omega
  have hm : (n - ab p.1 - ab p.2.1) % 2 = 0 := by unfold ab; omega
  have hs : n - ab p.1 - ab p.2.1 = 2 * ((n - ab p.1 - ab p.2.1) / 2) := by omega
  have s0 : 0 ≤ (n - ab p.1 - ab p.2.1) / 2 := by omega
  have bi := bestW_in x0 y0 s0
  have r := (reach (stF_st p) hs s0).mp ⟨hn, hp⟩
  have f := frame_ok (p := p) (W := bxW p n) (H := bxH p n) bi.1 bi.2.2 r
  have eW : bxW p n = bestW (ab p.1) (ab p.2.1) ((n - ab p.1 - ab p.2.1) / 2) := rfl
  have eH : bxH p n = ab p.1 + ab p.2.1 + (n - ab p.1 - ab p.2.1) / 2 - bxW p n := rfl
  refine ⟨by omega, hm, by omega, by omega, by omega, by omega, f.1, ?_, f.2.2.1, f.2.2.2⟩
  rw [f.2.1]
  omega
theorem least_ok (p : T3) : ab p.1 + ab p.2.1 ≤ stF p ∧ (stF p - ab p.1 - ab p.2.1) % 2 = 0 ∧ 0 ≤ bxW p (stF p) ∧ bxW p (stF p) ≤ stF p ∧ 0 ≤ bxH p (stF p) ∧ bxH p (stF p) ≤ stF p ∧ GoodR (frameF p (bxW p (stF p)) (bxH p (stF p))) ∧ sumR (frameF p (bxW p (stF p)) (bxH p (stF p))) = stF p ∧ posF (frameF p (bxW p (stF p)) (bxH p (stF p))) = p ∧ (frameF p (bxW p (stF p)) (bxH p (stF p))).length ≤ 7 :=
  built_ok (Int.le_refl _) (by rw [Int.sub_self]; rfl)
/-- the number of steps is not much greater than the numbers of the place -/
theorem st_le (p : T3) : stF p ≤ 4 * (ab p.1 + ab p.2.1 + ab p.2.2) + 4 := by
  obtain ⟨x, y, a⟩ := p
  show stF (x, y, a) ≤ 4 * (ab x + ab y + ab a) + 4
  have l := (stF_st (x, y, a)).low
  have x0 : 0 ≤ ab x := by unfold ab; omega
  have y0 : 0 ≤ ab y := by unfold ab; omega
  have a0 : 0 ≤ ab a := by unfold ab; omega
  have e1 : ab x * ab y = ab (x * y) := by unfold ab; rw [Int.natAbs_mul, Int.natCast_mul]
  have := l (ab x + ab a) (ab y + 1) ⟨by show ab x ≤ _; omega, by show ab y ≤ _; omega, by
    show ab (2 * a - x * y) + ab x * ab y ≤ 2 * ((ab x + ab a) * (ab y + 1))
    have m1 : 0 ≤ ab a * ab y := Int.mul_nonneg a0 y0
    rw [show (ab x + ab a) * (ab y + 1) = ab x * ab y + ab a * ab y + ab x + ab a by grind, e1]
    generalize x * y = z at *
    unfold ab at *
    omega⟩
  have this : stF (x, y, a) ≤ 2 * (ab x + ab a + (ab y + 1)) - ab x - ab y := this
  omega
noncomputable def lwF (p : T3) : List Rn := joinF (frameF p (bxW p (stF p)) (bxH p (stF p)))
theorem lwF_ok (p : T3) : GoodR (lwF p) ∧ sumR (lwF p) = stF p ∧ posF (lwF p) = p ∧ (lwF p).length ≤ 8 := by
  obtain ⟨_, _, _, _, _, _, h1, h2, h3, h4⟩ := least_ok p
  refine ⟨joinF_good h1, (joinF_sum h1).trans h2, (joinF_pos h1).trans h3, ?_⟩
  have := joinF_len (frameF p (bxW p (stF p)) (bxH p (stF p)))
  unfold lwF
  omega
theorem st_bd {p : T3} {k : Nat} (h1 : Bd k p.1) (h2 : Bd k p.2.1) (h3 : Bd k p.2.2) : Bd (k + 5) (stF p) := by
  have := st_le p
  have := st_nn p
  unfold Bd ab at *
  rw [Nat.pow_add]
  have : 0 < 2 ^ k := Nat.two_pow_pos k
  omega
end AW

set_option linter.all false
set_option maxHeartbeats 2000000
namespace AW
open PySem PySem.Spec PyProof.Rows L2 Fewest
variable [Tbs]
def rStep (s : List Rn) (p : Rn) : List Rn :=
  match s.reverse with
  | [] => if p.2 > 0 then [p] else []
  | q :: r => if p.2 > 0 then (if q.1 = p.1 then r.reverse ++ [(p.1, q.2 + p.2)] else s ++ [p]) else s
def runsF (ps : List Rn) : List Rn := ps.foldl rStep []
theorem rStep_zero (s : List Rn) (p : Rn) (h : p.2 = 0) : rStep s p = s := by
  unfold rStep
  cases e : s.reverse with
  | nil => rw [if_neg (by omega)]; rw [List.reverse_eq_nil_iff] at e; exact e.symm
  | cons q r => exact if_neg (by omega)
theorem rStep_nil (p : Rn) (h : 0 < p.2) : rStep [] p = [p] := if_pos h
theorem rStep_same (r : List Rn) (q p : Rn) (h : 0 < p.2) (e : q.1 = p.1) : rStep (r ++ [q]) p = r ++ [(p.1, q.2 + p.2)] := by
  unfold rStep
  rw [List.reverse_append]
  show (if p.2 > 0 then (if q.1 = p.1 then r.reverse.reverse ++ [(p.1, q.2 + p.2)] else _) else _) = _
  rw [if_pos h, if_pos e, List.reverse_reverse]
theorem rStep_other (r : List Rn) (q p : Rn) (h : 0 < p.2) (e : q.1 ≠ p.1) : rStep (r ++ [q]) p = r ++ [q] ++ [p] := by
  unfold rStep
  rw [List.reverse_append]
  show (if p.2 > 0 then (if q.1 = p.1 then _ else _) else _) = _
  rw [if_pos h, if_neg e]
/-- what joined_runs holds, against the law's list -/
theorem jr_step {s : List Rn × Str × Int} {p : Rn} (h0 : 0 ≤ s.2.2) (hz : s.2.2 = 0 → s.1 = []) (hp : p.1 ∈ chS "enws" ∧ 0 ≤ p.2) :
    jEnd (jStep s p) = rStep (jEnd s) p ∧ 0 ≤ (jStep s p).2.2 ∧ ((jStep s p).2.2 = 0 → (jStep s p).1 = []) := by
  obtain ⟨rs, l, c⟩ := s
  obtain ⟨q, t⟩ := p
  have h0 : 0 ≤ c := h0
  have hz : c = 0 → rs = [] := hz
  have hp2 : 0 ≤ t := hp.2
  by_cases h1 : t = 0
  · have e : jStep (rs, l, c) (q, t) = (rs, l, c) := if_pos h1
    rw [e, rStep_zero _ (q, t) h1]
    exact ⟨rfl, h0, hz⟩
  have tp : 0 < t := by omega
  by_cases h2 : q = l
  · have e : jStep (rs, l, c) (q, t) = (rs, l, c + t) := by unfold jStep; rw [if_neg h1, if_pos h2]
    rw [e]
    refine ⟨?_, by show 0 ≤ c + t; omega, fun h => absurd h (by show ¬ c + t = 0; omega)⟩
    have e1 : jEnd (rs, l, c + t) = rs ++ [(l, c + t)] := if_pos (by show c + t > 0; omega)
    rw [e1]
    by_cases hc : c > 0
    · have e2 : jEnd (rs, l, c) = rs ++ [(l, c)] := if_pos hc
      rw [e2, rStep_same rs (l, c) (q, t) tp h2.symm, h2]
    · have hc0 : c = 0 := by omega
      have e2 : jEnd (rs, l, c) = rs := if_neg hc
      rw [e2, hz hc0, rStep_nil (q, t) tp, hc0, Int.zero_add, h2]
      rfl
  · have e : jStep (rs, l, c) (q, t) = (if c > 0 then rs ++ [(l, c)] else rs, q, t) := by unfold jStep; rw [if_neg h1, if_neg h2]
    rw [e]
    refine ⟨?_, hp2, fun h => absurd h h1⟩
    by_cases hc : c > 0
    · rw [if_pos hc]
      have e1 : jEnd (rs ++ [(l, c)], q, t) = rs ++ [(l, c)] ++ [(q, t)] := if_pos tp
      have e2 : jEnd (rs, l, c) = rs ++ [(l, c)] := if_pos hc
      rw [e1, e2, rStep_other rs (l, c) (q, t) tp (fun h => h2 h.symm)]
    · rw [if_neg hc]
      have hc0 : c = 0 := by omega
      have e1 : jEnd (rs, q, t) = rs ++ [(q, t)] := if_pos tp
      have e2 : jEnd (rs, l, c) = rs := if_neg hc
      rw [e1, e2, hz hc0, rStep_nil (q, t) tp]
      rfl
theorem jr_fold : ∀ (ps : List Rn) (s : List Rn × Str × Int), 0 ≤ s.2.2 → (s.2.2 = 0 → s.1 = []) → GoodR ps → jEnd (ps.foldl jStep s) = ps.foldl rStep (jEnd s)
  | [], _, _, _, _ => rfl
  | p :: ps, s, a, b, h => by
    obtain ⟨e, a1, b1⟩ := jr_step a b h.head
    rw [List.foldl_cons, List.foldl_cons, jr_fold ps _ a1 b1 h.tail, e]
theorem joinF_runs {ps : List Rn} (h : GoodR ps) : joinF ps = runsF ps := jr_fold ps ([], "", 0) (Int.le_refl _) (fun _ => rfl) h
end AW

set_option linter.all false
set_option maxHeartbeats 2000000
namespace AW
open PySem PySem.Spec PyProof.Rows L2 Fewest
variable [Tbs]
def expR (ps : List Rn) : List Str := (ps.map fun p => List.replicate p.2.toNat p.1).flatten
def runE (l : List Str) : List Rn := runsF (l.map fun c => (c, (1 : Int)))
theorem expR_cons (p : Rn) (ps : List Rn) : expR (p :: ps) = List.replicate p.2.toNat p.1 ++ expR ps := rfl
theorem rep_steps (c : Str) : ∀ (n : Nat) (s : List Rn), (List.replicate (n + 1) ((c, (1 : Int)) : Rn)).foldl rStep s = rStep s (c, (n : Int) + 1)
  | 0, s => by simp
  | n + 1, s => by
    rw [List.replicate_succ', List.foldl_append, rep_steps c n s]
    show rStep (rStep s (c, (n : Int) + 1)) (c, 1) = _
    have hp : 0 < (n : Int) + 1 := by omega
    rcases List.eq_nil_or_concat s with e0 | ⟨r, q, e0⟩
    · rw [e0, rStep_nil _ hp, rStep_nil _ (by show 0 < ((n + 1 : Nat) : Int) + 1; omega)]
      have := rStep_same [] (c, (n : Int) + 1) (c, 1) (show (0 : Int) < 1 by decide) rfl
      rw [List.nil_append, List.nil_append] at this
      rw [this]
      push_cast
      rfl
    · rw [List.concat_eq_append] at e0
      by_cases e : q.1 = c
      · rw [e0, rStep_same r q _ hp e, rStep_same r q _ (by show 0 < ((n + 1 : Nat) : Int) + 1; omega) e]
        have := rStep_same r (c, q.2 + ((n : Int) + 1)) (c, 1) (show (0 : Int) < 1 by decide) rfl
        rw [this]
        congr 3
        push_cast
        show q.2 + ((n : Int) + 1) + 1 = q.2 + ((n : Int) + 1 + 1)
        omega
      · rw [e0, rStep_other r q _ hp e, rStep_other r q _ (by show 0 < ((n + 1 : Nat) : Int) + 1; omega) e]
        have := rStep_same (r ++ [q]) (c, (n : Int) + 1) (c, 1) (show (0 : Int) < 1 by decide) rfl
        rw [this]
        push_cast
        rfl
theorem rep_fold {c : Str} {t : Int} (h : 0 ≤ t) (s : List Rn) : (List.replicate t.toNat ((c, (1 : Int)) : Rn)).foldl rStep s = rStep s (c, t) := by
  obtain ⟨n, rfl⟩ := Int.eq_ofNat_of_zero_le h
  cases n with
  | zero => rw [rStep_zero _ _ rfl]; rfl
  | succ n => rw [Int.toNat_natCast, rep_steps c n s]; push_cast; rfl
theorem exp_fold : ∀ {ps : List Rn} (s : List Rn), GoodR ps → ((expR ps).map fun c => ((c, (1 : Int)) : Rn)).foldl rStep s = ps.foldl rStep s
  | [], _, _ => rfl
  | p :: ps, s, h => by
    rw [expR_cons, List.map_append, List.foldl_append, List.map_replicate, rep_fold h.head.2, exp_fold _ h.tail]
    rfl
/-- runs are told by the steps alone -/
theorem joinF_exp {ps : List Rn} (h : GoodR ps) : joinF ps = runE (expR ps) := by
  rw [joinF_runs h]
  exact (exp_fold [] h).symm
end AW

set_option linter.all false
set_option maxHeartbeats 2000000
namespace AW
open PySem PySem.Spec PyProof.Rows L2 Fewest
variable [Tbs]
def cnt (c : Str) (ps : List Rn) : Int := (ps.map fun p => if p.1 = c then p.2 else 0).sum
theorem cnt_nil (c : Str) : cnt c [] = 0 := rfl
theorem cnt_cons (c : Str) (p : Rn) (ps : List Rn) : cnt c (p :: ps) = (if p.1 = c then p.2 else 0) + cnt c ps := by simp [cnt]
theorem cnt_append (c : Str) (ps qs : List Rn) : cnt c (ps ++ qs) = cnt c ps + cnt c qs := by simp [cnt]
theorem cnt_nn {c : Str} : ∀ {ps : List Rn}, GoodR ps → 0 ≤ cnt c ps
  | [], _ => Int.le_refl _
  | p :: ps, h => by
    have h1 := cnt_nn (c := c) h.tail
    have h2 := h.head.2
    rw [cnt_cons]
    split <;> omega
theorem cnt_rStep (c : Str) {s : List Rn} {p : Rn} (hp : 0 ≤ p.2) : cnt c (rStep s p) = cnt c s + cnt c [p] := by
  have e1 : cnt c [p] = if p.1 = c then p.2 else 0 := by rw [cnt_cons, cnt_nil]; omega
  by_cases z : p.2 = 0
  · rw [rStep_zero _ _ z, e1]; split <;> omega
  have hp : 0 < p.2 := by omega
  rcases List.eq_nil_or_concat s with e0 | ⟨r, q, e0⟩
  · rw [e0, rStep_nil _ hp, cnt_nil]; omega
  · rw [List.concat_eq_append] at e0
    by_cases e : q.1 = p.1
    · rw [e0, rStep_same r q p hp e, cnt_append, cnt_append, e1, cnt_cons, cnt_cons, cnt_nil, e]
      show _ + ((if p.1 = c then q.2 + p.2 else 0) + 0) = _
      split <;> omega
    · rw [e0, rStep_other r q p hp e, cnt_append]
theorem cnt_run (c : Str) : ∀ {ps s : List Rn}, GoodR ps → cnt c (ps.foldl rStep s) = cnt c s + cnt c ps
  | [], s, _ => by simp [cnt_nil]
  | p :: ps, s, h => by
    have e : cnt c (p :: ps) = cnt c [p] + cnt c ps := cnt_append c [p] ps
    rw [List.foldl_cons, cnt_run c h.tail, cnt_rStep c h.head.2, e]
    omega
theorem cnt_join {ps : List Rn} (h : GoodR ps) (c : Str) : cnt c (joinF ps) = cnt c ps := by
  rw [joinF_runs h]
  unfold runsF
  rw [cnt_run c h, cnt_nil]; omega
theorem str_ne : ¬ (("e" : Str) = "n") ∧ ¬ (("e" : Str) = "w") ∧ ¬ (("e" : Str) = "s") ∧ ¬ (("n" : Str) = "w") ∧ ¬ (("n" : Str) = "s") ∧ ¬ (("w" : Str) = "s") := by decide +kernel
theorem cnt_pos : ∀ {ps : List Rn}, GoodR ps → (posF ps).1 = cnt "e" ps - cnt "w" ps ∧ (posF ps).2.1 = cnt "n" ps - cnt "s" ps
  | [], _ => ⟨rfl, rfl⟩
  | p :: ps, h => by
    obtain ⟨h1, h2⟩ := cnt_pos h.tail
    obtain ⟨c, t⟩ := p
    obtain ⟨n1, n2, n3, n4, n5, n6⟩ := str_ne
    rw [posF_cons, posF_run, cnt_cons, cnt_cons, cnt_cons, cnt_cons]
    show dx c * t + (posF ps).1 = _ ∧ dy c * t + (posF ps).2.1 = _
    rw [h1, h2]
    have d : (dx "e" = 1 ∧ dy "e" = 0) ∧ (dx "w" = -1 ∧ dy "w" = 0) ∧ (dx "n" = 0 ∧ dy "n" = 1) ∧ (dx "s" = 0 ∧ dy "s" = -1) := by decide +kernel
    rcases mem_enws h.head.1 with e | e | e | e
    all_goals
      have e : c = _ := e
      subst e
    · rw [d.1.1, d.1.2]
      simp only [n1, n2, n3, if_true, if_false]
      omega
    · rw [d.2.2.1.1, d.2.2.1.2]
      simp only [Ne.symm n1, n4, n5, if_true, if_false]
      omega
    · rw [d.2.1.1, d.2.1.2]
      simp only [Ne.symm n2, Ne.symm n4, n6, if_true, if_false]
      omega
    · rw [d.2.2.2.1, d.2.2.2.2]
      simp only [Ne.symm n3, Ne.symm n5, Ne.symm n6, if_true, if_false]
      omega
/-- the steps one by one -/
def unR (l : List Str) : List Rn := l.map fun c => (c, 1)
theorem un_good {ps : List Rn} (hg : GoodR ps) : GoodR (unR (expR ps)) := fun q hq => by
  obtain ⟨c, hc, rfl⟩ := List.mem_map.mp hq
  unfold expR at hc
  obtain ⟨l, hl, hc⟩ := List.mem_flatten.mp hc
  obtain ⟨p, hp, rfl⟩ := List.mem_map.mp hl
  rw [(List.mem_replicate.mp hc).2]
  exact ⟨(hg p hp).1, by show (0 : Int) ≤ 1; decide⟩
theorem un_same {ps : List Rn} (hg : GoodR ps) : joinF (unR (expR ps)) = joinF ps := by
  rw [joinF_exp hg, joinF_runs (un_good hg)]
  rfl
theorem un_pos {ps : List Rn} (hg : GoodR ps) : posF (unR (expR ps)) = posF ps ∧ ∀ c, cnt c (unR (expR ps)) = cnt c ps := by
  refine ⟨by rw [← joinF_pos (un_good hg), un_same hg, joinF_pos hg], fun c => by rw [← cnt_join (un_good hg), un_same hg, cnt_join hg]⟩
abbrev lotP (ps : List Rn) : Int := max (cnt "e" ps) (cnt "w" ps)
abbrev lotQ (ps : List Rn) : Int := max (cnt "n" ps) (cnt "s" ps)
/-- one step more, along x -/
theorem box_x {x y u p q E W : Int} (d : Int) (hd : d = 1 ∨ d = -1) (hx : x = E - W) (hp : p = max E W) (hE : 0 ≤ E) (hW : 0 ≤ W) (h : Box (ab x) (ab y) (ab u) p q) :
    Box (ab (x + d)) (ab y) (ab (u - d * y)) (max (E + (if d = 1 then 1 else 0)) (W + (if d = 1 then 0 else 1))) q := by
  have y0 : 0 ≤ ab y := by unfold ab; omega
  have hu : ab (u - d * y) ≤ ab u + ab y := by
    rcases hd with rfl | rfl
    · unfold ab; omega
    · unfold ab; omega
  by_cases out : (d = 1 ∧ 0 ≤ x) ∨ (d = -1 ∧ x ≤ 0)
  · have e1 : ab (x + d) = ab x + 1 := by unfold ab; omega
    have e2 : max (E + (if d = 1 then 1 else 0)) (W + (if d = 1 then 0 else 1)) = p + 1 := by
      rcases hd with rfl | rfl <;> simp <;> omega
    rw [e1, e2]
    exact lip_up y0 h hu
  · have e1 : ab (x + d) = ab x - 1 := by unfold ab; omega
    have e2 : max (E + (if d = 1 then 1 else 0)) (W + (if d = 1 then 0 else 1)) = p := by
      rcases hd with rfl | rfl <;> simp <;> omega
    rw [e1, e2]
    exact lip_down h hu
theorem box_un : ∀ (l : List Str), (∀ c ∈ l, c ∈ chS "enws") → Box (ab (posF (unR l.reverse)).1) (ab (posF (unR l.reverse)).2.1) (ab (2 * (posF (unR l.reverse)).2.2 - (posF (unR l.reverse)).1 * (posF (unR l.reverse)).2.1)) (lotP (unR l.reverse)) (lotQ (unR l.reverse))
  | [], _ => ⟨by decide, by decide, by decide⟩
  | c :: l, h => by
    have ih := box_un l fun d hd => h d (List.mem_cons_of_mem _ hd)
    have gl : GoodR (unR l.reverse) := fun q hq => by
      obtain ⟨d, hd, rfl⟩ := List.mem_map.mp hq
      exact ⟨h d (List.mem_cons_of_mem _ (List.mem_reverse.mp hd)), by show (0 : Int) ≤ 1; decide⟩
    obtain ⟨cp1, cp2⟩ := cnt_pos gl
    have n1 := cnt_nn (c := "e") gl
    have n2 := cnt_nn (c := "w") gl
    have n3 := cnt_nn (c := "n") gl
    have n4 := cnt_nn (c := "s") gl
    have er : unR (c :: l).reverse = unR l.reverse ++ [(c, 1)] := by simp [unR]
    rw [er]
    unfold lotP lotQ at *
    rw [posF_append, posF_run, cnt_append, cnt_append, cnt_append, cnt_append]
    have e1 : ∀ k : Str, cnt k [(c, (1 : Int))] = if c = k then 1 else 0 := fun k => by rw [cnt_cons, cnt_nil]; show (if c = k then (1 : Int) else 0) + 0 = _; omega
    rw [e1, e1, e1, e1]
    generalize posF (unR l.reverse) = s at *
    obtain ⟨x, y, a⟩ := s
    generalize cnt "e" (unR l.reverse) = E at *
    generalize cnt "w" (unR l.reverse) = Wt at *
    generalize cnt "n" (unR l.reverse) = N at *
    generalize cnt "s" (unR l.reverse) = S at *
    obtain ⟨m1, m2, m3, m4, m5, m6⟩ := str_ne
    have d : (dx "e" = 1 ∧ dy "e" = 0) ∧ (dx "w" = -1 ∧ dy "w" = 0) ∧ (dx "n" = 0 ∧ dy "n" = 1) ∧ (dx "s" = 0 ∧ dy "s" = -1) := by decide +kernel
    have ih : Box (ab x) (ab y) (ab (2 * a - x * y)) (max E Wt) (max N S) := ih
    have cp1 : x = E - Wt := cp1
    have cp2 : y = N - S := cp2
    show Box (ab (x + dx c * 1)) (ab (y + dy c * 1)) (ab (2 * (a + 0 + x * (dy c * 1)) - (x + dx c * 1) * (y + dy c * 1))) _ _
    rcases mem_enws (h c (List.mem_cons_self ..)) with e | e | e | e
    all_goals subst e
    · rw [d.1.1, d.1.2]
      simp only [m1, m2, m3, if_true, if_false]
      have := box_x 1 (.inl rfl) cp1 rfl n1 n2 ih
      simp only [if_true, Int.one_mul, Int.add_zero] at this
      rw [show 2 * (a + 0 + x * (0 * 1)) - (x + 1 * 1) * (y + 0 * 1) = 2 * a - x * y - y by grind, show y + 0 * 1 = y by omega, show x + 1 * 1 = x + 1 by omega, show N + 0 = N by omega, show S + 0 = S by omega, show Wt + 0 = Wt by omega]
      exact this
    · rw [d.2.2.1.1, d.2.2.1.2]
      simp only [Ne.symm m1, m4, m5, if_true, if_false]
      have := box_x 1 (.inl rfl) cp2 rfl n3 n4 ih.swap
      simp only [if_true, Int.one_mul, Int.add_zero] at this
      have this := this.swap
      rw [show x + 0 * 1 = x by omega, show y + 1 * 1 = y + 1 by omega, show E + 0 = E by omega, show S + 0 = S by omega, show Wt + 0 = Wt by omega]
      have e2 : 2 * (a + 0 + x * (1 * 1)) - x * (y + 1) = -(-(2 * a - x * y) - x) := by grind
      rw [e2, ab_neg]
      have b2 := box_x 1 (.inl rfl) cp2 rfl n3 n4 (u := -(2 * a - x * y)) (y := x) (q := max E Wt) (by rw [ab_neg]; exact ih.swap)
      simp only [if_true, Int.one_mul, Int.add_zero] at b2
      exact b2.swap
    · rw [d.2.1.1, d.2.1.2]
      simp only [Ne.symm m2, Ne.symm m4, m6, if_true, if_false]
      have := box_x (-1) (.inr rfl) cp1 rfl n1 n2 ih
      rw [if_neg (by decide), if_neg (by decide)] at this
      rw [show 2 * (a + 0 + x * (0 * 1)) - (x + -1 * 1) * (y + 0 * 1) = 2 * a - x * y - -1 * y by grind, show y + 0 * 1 = y by omega, show x + -1 * 1 = x + -1 by omega, show N + 0 = N by omega, show S + 0 = S by omega]
      exact this
    · rw [d.2.2.2.1, d.2.2.2.2]
      simp only [Ne.symm m3, Ne.symm m5, Ne.symm m6, if_true, if_false]
      have b2 := box_x (-1) (.inr rfl) cp2 rfl n3 n4 (u := -(2 * a - x * y)) (y := x) (q := max E Wt) (by rw [ab_neg]; exact ih.swap)
      rw [if_neg (by decide), if_neg (by decide)] at b2
      rw [show x + 0 * 1 = x by omega, show y + -1 * 1 = y + -1 by omega, show E + 0 = E by omega, show Wt + 0 = Wt by omega]
      have e2 : 2 * (a + 0 + x * (-1 * 1)) - x * (y + -1) = -(-(2 * a - x * y) - -1 * x) := by grind
      rw [e2, ab_neg]
      exact b2.swap
/-- every order of the steps keeps within the box of the lot -/
theorem box_walk {ps : List Rn} (hg : GoodR ps) : Box (ab (posF ps).1) (ab (posF ps).2.1) (ab (2 * (posF ps).2.2 - (posF ps).1 * (posF ps).2.1)) (lotP ps) (lotQ ps) := by
  have h := box_un (expR ps).reverse fun c hc => by
    have := un_good hg (c, 1) (List.mem_map_of_mem (List.mem_reverse.mp hc))
    exact this.1
  rw [List.reverse_reverse] at h
  obtain ⟨e1, e2⟩ := un_pos hg
  unfold lotP lotQ at *
  rw [e1, e2, e2, e2, e2] at h
  exact h
theorem lot_in {a z m : Int} : ab (2 * a - z) + ab z ≤ 2 * m ↔ max 0 z - m ≤ a ∧ a ≤ m - max 0 (-z) := by unfold ab; omega
theorem cnt_climb {W H A : Int} {e n : Str} (hne : e ≠ n) (hH : 0 ≤ H) (k : Str) : cnt k (climbF W H A e n) = (if e = k then W else 0) + (if n = k then H else 0) := by
  unfold climbF
  split
  · rename_i z
    rw [cnt_cons, cnt_nil]
    show (if e = k then W else 0) + 0 = _
    rw [z]
    split <;> split <;> omega
  · simp only [cnt_cons, cnt_nil]
    generalize (if W - A.fdiv H < 1 then W - A.fdiv H else 1) = b
    by_cases h1 : e = k
    · subst h1
      simp only [if_true, if_neg (Ne.symm hne)]
      omega
    · by_cases h2 : n = k
      · subst h2
        simp only [if_true, if_neg hne]
        omega
      · simp only [if_neg h1, if_neg h2]
        omega
/-- the walk around the lot's box has the lot's steps -/
theorem frame_cnt {E N Wt S a : Int} (hE : 0 ≤ E) (hN : 0 ≤ N) (hW : 0 ≤ Wt) (hS : 0 ≤ S) :
    let f := frameF (E - Wt, N - S, a) (max E Wt) (max N S)
    cnt "e" f = E ∧ cnt "n" f = N ∧ cnt "w" f = Wt ∧ cnt "s" f = S := by
  intro f
  obtain ⟨m1, m2, m3, m4, m5, m6⟩ := str_ne
  have gen : ∀ k : Str, cnt k f = (if eL (decide (E - Wt < 0)) "e" "w" = k then max E Wt - ab (E - Wt) else 0) + (if eL (decide (E - Wt < 0)) "w" "e" = k then max E Wt else 0) + (if eL (decide (N - S < 0)) "s" "n" = k then max N S else 0) + (if eL (decide (N - S < 0)) "n" "s" = k then max N S - ab (N - S) else 0) := fun k => by
    have ne : eL (decide (E - Wt < 0)) "w" "e" ≠ eL (decide (N - S < 0)) "s" "n" := by
      cases decide (E - Wt < 0) <;> cases decide (N - S < 0) <;> decide +kernel
    show cnt k (frameF (E - Wt, N - S, a) (max E Wt) (max N S)) = _
    unfold frameF
    split
    · rw [cnt_append, cnt_append, cnt_climb (Ne.symm ne) (by omega), cnt_cons, cnt_cons, cnt_nil]
      show (if eL (decide (E - Wt < 0)) "e" "w" = k then max E Wt - ab (E - Wt) else 0) + 0 + ((if _ = k then max N S else 0) + (if _ = k then max E Wt else 0) + ((if eL (decide (N - S < 0)) "n" "s" = k then max N S - ab (N - S) else 0) + 0)) = _
      omega
    · rw [cnt_append, cnt_append, cnt_climb ne (by omega), cnt_cons, cnt_cons, cnt_nil]
      show (if eL (decide (N - S < 0)) "n" "s" = k then max N S - ab (N - S) else 0) + 0 + ((if _ = k then max E Wt else 0) + (if _ = k then max N S else 0) + ((if eL (decide (E - Wt < 0)) "e" "w" = k then max E Wt - ab (E - Wt) else 0) + 0)) = _
      omega
  have eT : ∀ x y : Str, eL true x y = x := fun x y => rfl
  have eF : ∀ x y : Str, eL false x y = y := fun x y => rfl
  rw [gen, gen, gen, gen]
  by_cases hx : E - Wt < 0 <;> by_cases hy : N - S < 0
  all_goals
    simp only [hx, hy, decide_true, decide_false, eT, eF, m1, m2, m3, m4, m5, m6, Ne.symm m1, Ne.symm m2, Ne.symm m3, Ne.symm m4, Ne.symm m5, Ne.symm m6, if_true, if_false]
    unfold ab
    omega
end AW

set_option linter.all false
set_option maxRecDepth 100000
set_option maxHeartbeats 8000000
namespace AW
open PySem PySem.Spec PyProof.Rows L2 Fewest
variable [Tbs]
section
variable {P : Program} {w : World} {K : PySem.W.Frag} {mg : Str → Option Value} {base : Heap}
def badF (m : Int) (d : D) : Prop := intD d = false ∨ ∃ i : Int, d = .int i ∧ i < m
def pr_check_from (T : Tx K mg) : Pr := fun ds B k e => ∃ d m, ds = [d, .int m] ∧ ((∃ i : Int, d = .int i ∧ m ≤ i ∧ k .non B) ∨ (plainD d = true ∧ badF m d ∧ e T.C_BadNumber (some ((["value"] : List Str), [d])) B))
theorem okD_check_from (T : Tx K mg) : FnOk P w K mg base (L2.CX P w) 3 T.a_check_from T.d_check_from P_check_from (spD K (pr_check_from T)) := by
  refine T.F_check_from.okX sc_check_from (spD_len fun ds B k e h => by obtain ⟨d, m, rfl, hk⟩ := h; rfl) (fun cdv A outer s H vs Q E hr h => ?_)
  have G_BadNumber_init : FnOk P w K mg base (L2.CX P w) 1 _ _ _ _ := ok_BadNumber_init T
  have G_is_integer : FnOk P w K mg base (L2.CX P w) _ _ _ _ _ := okD_is_integer T
  obtain ⟨G, ds, B, k, e, hs, hR, ⟨d, m, rfl, hk⟩, hK, hX⟩ := h
  refine ⟨_, (pss_one (ps_if (PW.pt (pw_or (pt_not (pt_val (pe_call G_is_integer (hr.mono (by decide)) (by rfl) T.g_is_integer T.F_is_integer.kp T.b_is_integer .nil (passE (E := E)) (pa_cons (pv 0) pa_nil)))) (pw_or1 (pt_cmpR op_lt (pv 0) (pv 1) (nomark _)))))
 (pss_one (ps_raise rfl (takes_of rfl rfl rfl rfl) (pmk_oex T.X_BadNumber T.ei_BadNumber T.et_BadNumber G_BadNumber_init (hr.mono (by decide)) T.b_BadNumber_init .nil passL rfl T.g_C_BadNumber (by exact (pa_cons (pv 0) pa_nil)))))
 pss_nil)), run_body (ρ := [some d, some (.int m)]) hs hR hK hX rfl ?_⟩
  rcases hk with ⟨i, rfl, h0, hk⟩ | ⟨hp, hb, he⟩
  · refine ws_if <| wt_or <| wt_not <| wt_val <| we_call <| wa_cons <| we_var rfl <| wa_nil ⟨_, rfl, .inl rfl, _, rfl, fun h => (nomatch h), fun _ => wt_test <| we_op <| we_var rfl <| we_var rfl <| ro_b0 ⟨_, rfl, fun h => ?_, fun h => ws_next hk⟩⟩
    exact absurd (of_decide_eq_true h) (by omega)
  · rcases hb with hb | ⟨i, rfl, h0⟩
    · refine ws_if <| wt_or <| wt_not <| wt_val <| we_call <| wa_cons <| we_var rfl <| wa_nil ⟨_, rfl, .inl hp, _, rfl, fun _ => ⟨fun _ => ws_raise1 (wa_cons (we_var rfl (wa_nil ⟨_, rfl, he⟩))), fun h => (nomatch h)⟩, fun h => ?_⟩
      rw [hb] at h
      cases h
    · refine ws_if <| wt_or <| wt_not <| wt_val <| we_call <| wa_cons <| we_var rfl <| wa_nil ⟨_, rfl, .inl rfl, _, rfl, fun h => (nomatch h), fun _ => wt_test <| we_op <| we_var rfl <| we_var rfl <| ro_b0 ⟨_, rfl, fun _ => ws_raise1 (wa_cons (we_var rfl (wa_nil ⟨_, rfl, he⟩))), fun h => ?_⟩⟩
      exact absurd h0 (of_decide_eq_false h)
end
end AW

set_option linter.all false
set_option maxRecDepth 100000
set_option maxHeartbeats 8000000
namespace AW
open PySem PySem.Spec PyProof.Rows L2 Fewest
variable [Tbs]
section
variable {P : Program} {w : World} {K : PySem.W.Frag} {mg : Str → Option Value} {base : Heap}
abbrev penF : D := .pen "mark" "rest"
def pr_l_begin (T : Tx K mg) : Pr := fun ds B k e => ∃ ns : List Int, ds = [.scr ns] ∧ ns.length ≤ 63 ∧ 0 ≤ B ∧ k penF B
theorem okD_l_begin (T : Tx K mg) : FnOk P w K mg base (L2.CX P w) 1 T.a_l_begin T.d_l_begin P_l_begin (spD K (pr_l_begin T)) :=
  (ok_l_begin T).imp fun vs H Q E ⟨G, ds, B, k, e, hs, hr, ⟨ns, ed, hl, hB, h⟩, hk, hx⟩ => by
    subst ed
    obtain ⟨v, _, rfl, ⟨hT, a, rfl, hS⟩, rfl⟩ := hr
    refine ⟨a, ns, rfl, (Le.of_sub (B := B) (B' := B) hs (Int.le_refl _)).seqL hS, hl, fun p c H' ss np nc ne hp hc => ?_⟩
    have none_of : ∀ q, H q = none → G q = none := fun q z => by
      cases w : G q with
      | none => rfl
      | some u => rw [hs _ _ w] at z; cases z
    have le : Le G B (upd (upd G p (.dK (penE "mark" "rest" c 0 0))) c (.lst (ns.map V.int))) B := Le.of_sub (fun b o z => by rw [upd_ne (ne_of_none z (none_of c nc)), upd_ne (ne_of_none z (none_of p np))]; exact z) (Int.le_refl _)
    refine hk penF _ B (upd (upd G p (.dK (penE "mark" "rest" c 0 0))) c (.lst (ns.map V.int))) H' h ⟨le, fun b o z => ?_, fun b o z n _ => ?_⟩ ⟨le.tb hT, p, c, ns, 0, 0, rfl, by rw [upd_ne ne.symm, upd_same], upd_same, ⟨hl, fun h _ => absurd h (by decide)⟩, Int.le_refl _, hB⟩
    · by_cases h1 : b = c
      · subst h1; rw [upd_same] at z; cases z; exact hc
      · rw [upd_ne h1] at z
        by_cases h2 : b = p
        · subst h2; rw [upd_same] at z; cases z; exact hp
        · rw [upd_ne h2] at z; exact ss _ _ (hs _ _ z)
    · exact ⟨ss _ _ z, by rw [upd_ne (ne_of_none z nc), upd_ne (ne_of_none z np)]; exact n⟩
def pr_l_draw (T : Tx K mg) : Pr := fun ds B k e => ∃ n : Int, ds = [penF, .int n] ∧ 0 < n ∧ n < 1073741824 ∧ B ≤ 1000000 ∧ ∀ d, 0 ≤ d → d < n → k (.int d) (B + 1)
theorem okD_l_draw (T : Tx K mg) : FnOk P w K mg base (L2.CX P w) 1 T.a_l_draw T.d_l_draw P_l_draw (spD K (pr_l_draw T)) :=
  (ok_l_draw T).imp fun vs H Q E ⟨G, ds, B, k, e, hs, hr, ⟨n, ed, n0, n1, hB, h⟩, hk, hx⟩ => by
    subst ed
    obtain ⟨v, _, rfl, ⟨_, p, c, ns, s, r, rfl, gp, gc, hl, s0, s1⟩, u, _, rfl, ru, rfl⟩ := hr
    rw [show u = _ from ru]
    refine ⟨p, n, B, rfl, n0, n1, ⟨c, ns, s, r, hs _ _ gp, hs _ _ gc, hl.1, s0, s1⟩, hB, fun d H' hd bt hp => ?_⟩
    obtain ⟨c1, ns1, s', r', e1, e2, l1, b0, b1⟩ := hp.at_
    obtain ⟨s2, r2, e3⟩ := bt.cl c s r (hs _ _ gp)
    rw [e1] at e3
    have ec : c1 = c := by
      injection e3 with e3
      injection e3 with e3
      exact penD_inj e3
    subst ec
    have npc : c1 ≠ p := ne_of gc gp (by intro z; cases z)
    have nop : ∀ b o, G b = some o → ¬ IsPen o → b ≠ p := fun b o z n q => by
      subst q
      rw [gp] at z
      cases z
      exact n (.inl ⟨_, _, _, _, _, rfl⟩)
    refine hk (.int d) _ (B + 1) (upd G p (.dK (penD c1 s' r'))) H' (h d hd.1 hd.2) ⟨⟨by omega, fun b o z n => by rw [upd_ne (nop b o z n)]; exact z, fun b k l q x y z => ?_, fun hT z hz => ?_⟩, fun b o z => ?_, fun b o z n _ => ?_⟩ rfl
    · by_cases hb : b = p
      · subst hb
        rw [gp] at z
        injection z with z
        injection z with z
        unfold penE at z
        injection z with z1 z2
        injection z2 with z2 z3
        injection z3 with z3 z4
        injection z1 with _ z1
        injection z1 with z1
        injection z2 with z2 z5
        injection z2 with z2
        injection z3 with z3 z6
        injection z3 with z3
        subst z1 z2 z3
        exact ⟨s', r', upd_same, fun _ _ => ⟨b0, b1⟩⟩
      · exact ⟨x, y, by rw [upd_ne hb]; exact z, fun a b => ⟨a, by omega⟩⟩
    · obtain ⟨ps, h1, h2, h3⟩ := hT z hz
      refine ⟨ps, by rw [upd_ne (ne_of h1 gp (by intro z; cases z))]; exact h1, h2, fun pos cv hc => ?_⟩
      obtain ⟨c2, k1, k2⟩ := h3 pos cv hc
      exact ⟨c2, k1, by rw [upd_ne (ne_of k2 gp (by intro z; cases z))]; exact k2⟩
    · by_cases hb : b = p
      · subst hb; rw [upd_same] at z; cases z; exact e1
      · rw [upd_ne hb] at z; exact bt.st b o hb (hs _ _ z)
    · have hb : b ≠ p := fun q => by rw [q, gp] at n; cases n
      exact ⟨bt.st b o hb z, by rw [upd_ne hb]; exact n⟩
theorem bd0 {k : Nat} : Bd k 0 := Nat.pos_of_ne_zero (by have := Nat.one_le_two_pow (n := k); omega)
def pr_l_pick (T : Tx K mg) : Pr := fun ds B k e => ∃ d, ds = [penF, d] ∧ ((∃ xs : List D, d = .lst xs ∧ 0 < xs.length ∧ xs.length ≤ 1000000 ∧ B ≤ 1000000 ∧ ∀ d, d ∈ xs → k d (B + 1)) ∨ (∃ x : Str, d = .str x ∧ 0 < x.length ∧ x.length ≤ 1000000 ∧ B ≤ 1000000 ∧ ∀ c, c ∈ chS x → k (.str c) (B + 1)))
theorem okD_l_pick (T : Tx K mg) : FnOk P w K mg base (L2.CX P w) 2 T.a_l_pick T.d_l_pick P_l_pick (spD K (pr_l_pick T)) := by
  refine T.F_l_pick.okX sc_l_pick (spD_len fun ds B k e h => by obtain ⟨d, rfl, hk⟩ := h; rfl) (fun cdv A outer s H vs Q E hr h => ?_)
  have G_l_draw : FnOk P w K mg base (L2.CX P w) 1 _ _ _ _ := okD_l_draw T
  obtain ⟨G, ds, B, k, e, hs, hR, ⟨d, rfl, hk⟩, hK, hX⟩ := h
  refine ⟨_, (pss_one (ps_ret (pe_or2 (pe_ix ix_list (pv 1) (pe_call G_l_draw (hr.mono (by decide)) (by rfl) T.g_l_draw T.F_l_draw.kp T.b_l_draw .nil passL (pa_cons (pv 0) (pa_cons (pe_callB call_len_seq (by rfl) T.n_len (by decide +kernel) (pa_cons (pv 1) pa_nil)) pa_nil))) (fun _ _ => rfl)) (pe_ix ix_str (pv 1) (pe_call G_l_draw (hr.mono (by decide)) (by rfl) T.g_l_draw T.F_l_draw.kp T.b_l_draw .nil passL (pa_cons (pv 0) (pa_cons (pe_callB call_len_str (by rfl) T.n_len (by decide +kernel) (pa_cons (pv 1) pa_nil)) pa_nil))) (fun _ _ => rfl))))), run_body (ρ := [some penF, some d]) hs hR hK hX rfl ?_⟩
  rcases hk with ⟨xs, rfl, h0, h1, hB, hk⟩ | ⟨x, rfl, h0, h1, hB, hk⟩
  · refine ws_ret <| we_orL <| we_op <| we_var rfl <| we_call <| wa_cons <| we_var rfl <| wa_cons <| we_lenL <| wa_cons <| we_var rfl <| wa_nil ⟨_, rfl, wa_nil ⟨_, rfl, by omega, by omega, hB, fun d d0 d1 => ?_⟩⟩
    obtain ⟨j, rfl⟩ := Int.eq_ofNat_of_zero_le d0
    have hj : j < xs.length := by omega
    exact ro_ixL (atI_nat (List.getElem?_eq_getElem hj)) (hk _ (List.getElem_mem hj))
  · have zS : 1000000 < sizeLine := by decide
    refine ws_ret <| we_orR <| we_op <| we_var rfl <| we_call <| wa_cons <| we_var rfl <| wa_cons <| we_lenStr <| wa_cons <| we_var rfl <| wa_nil ⟨_, rfl, by omega, wa_nil ⟨_, rfl, by omega, by omega, hB, fun d d0 d1 => ?_⟩⟩
    obtain ⟨j, rfl⟩ := Int.eq_ofNat_of_zero_le d0
    have hj : j < x.cps.toList.length := by
      have : x.cps.toList.length = x.length := by simp [Str.length]
      omega
    refine ro_ixS (by omega) (atI_nat (List.getElem?_eq_getElem hj)) (hk _ ?_)
    unfold chS
    exact List.mem_map_of_mem (List.getElem_mem hj)
def pr_l_number (T : Tx K mg) : Pr := fun ds B k e => ∃ g : Int, ds = [penF, .int g] ∧ 1 ≤ g ∧ g ≤ 14 ∧ B ≤ 900000 ∧ ∀ (i : Int) B', 0 ≤ i → Bd (25 * g.toNat) i → B' ≤ B + 1 + g → k (.int i) B'
theorem okD_l_number (T : Tx K mg) : FnOk P w K mg base (L2.CX P w) 3 T.a_l_number T.d_l_number P_l_number (spD K (pr_l_number T)) := by
  refine T.F_l_number.okX sc_l_number (spD_len fun ds B k e h => by obtain ⟨g, rfl, g0, g1, hB, hk⟩ := h; rfl) (fun cdv A outer s H vs Q E hr h => ?_)
  have G_l_draw : FnOk P w K mg base (L2.CX P w) 1 _ _ _ _ := okD_l_draw T
  obtain ⟨G, ds, B, k, e, hs, hR, ⟨g, rfl, g0, g1, hB, hk⟩, hK, hX⟩ := h
  refine ⟨_, (pss_cons (ps_set (i := 2) sc_l_number.nd rfl (.inl rfl) pe_int)
 (pss_cons (ps_for (passes_of rfl) rfl (pi_range1 (by rfl) T.n_range (pa_cons (pe_op op_add pe_int (pe_call G_l_draw (hr.mono (by decide)) (by rfl) T.g_l_draw T.F_l_draw.kp T.b_l_draw .nil passL (pa_cons (pv 0) (pa_cons (pv 1) pa_nil)))) pa_nil)) (pg_name (i := 3) sc_l_number.nd rfl (.inl rfl))
 (pss_one (ps_set (i := 2) sc_l_number.nd rfl (.inl rfl) (pe_op op_add (pe_op op_mulW (pv 2) (pe_op op_pow pe_int pe_int)) (pe_call G_l_draw (hr.mono (by decide)) (by rfl) T.g_l_draw T.F_l_draw.kp T.b_l_draw .nil passL (pa_cons (pv 0) (pa_cons (pe_op op_pow pe_int pe_int) pa_nil)))))))
 (pss_one (ps_ret (pv 2))))), run_body (ρ := [some penF, some (.int g), none, none]) hs hR hK hX rfl ?_⟩
  refine ws_seq (ws_set (we_int ?_))
  refine ws_cut (fun ρ' B' => (∃ f o, ρ' = [some penF, some (.int g), some (.int f), o] ∧ 0 ≤ f ∧ Bd (25 * g.toNat) f) ∧ B' ≤ B + 1 + g) ?_ ?_
  · refine ws_for_range1 (wa_cons (we_op (we_int (we_call (wa_cons (we_var rfl (wa_cons (we_var rfl (wa_nil ⟨_, rfl, by omega, by omega, by omega, fun d d0 d1 => ro_i0 (wa_nil ⟨_, rfl, by omega, by omega, fun i ρ' B' => (∃ f o, ρ' = [some penF, some (.int g), some (.int f), o] ∧ 0 ≤ f ∧ Bd (25 * i) f) ∧ B' ≤ B + 1 + i, ⟨⟨_, _, rfl, Int.le_refl _, bd0⟩, by omega⟩, fun i ρ' B' hi hI => ?_, fun ρ' B' hI => ?_⟩)⟩)))))))))
    · obtain ⟨⟨f, o, rfl, f0, bf⟩, hB'⟩ := hI
      have hi2 : i ≤ 13 := by omega
      refine wg_name ?_
      have bf2 : Bd 400 f := bf.mono (by omega)
      refine (ws_set (we_op (we_op (we_var rfl (we_op (we_int (we_int (ro_i ⟨by decide +kernel, by decide +kernel, by decide +kernel⟩ (ro_i (cmc (by apply Bd.mono; (repeat (first | assumption | exact Bd.lit 64 (by decide +kernel) | exact Bd.lit 2000 (by decide +kernel) | apply Bd.neg | apply Bd.fdiv | apply Bd.mul | apply Bd.add2 | apply Bd.sub2)); decide) (by apply Bd.mono; (repeat (first | assumption | exact Bd.lit 64 (by decide +kernel) | exact Bd.lit 2000 (by decide +kernel) | apply Bd.neg | apply Bd.fdiv | apply Bd.mul | apply Bd.add2 | apply Bd.sub2)); decide)) (we_call (wa_cons (we_var rfl (wa_cons (we_op (we_int (we_int (ro_i ⟨by decide +kernel, by decide +kernel, by decide +kernel⟩ (wa_nil ⟨_, rfl, by decide +kernel, by decide +kernel, by omega, fun c c0 c1 => (ro_i0 ?_)⟩))))))))))))))))))
      have e10 : (10 : Int) ^ (7 : Int).toNat = 10000000 := by decide
      rw [e10] at c1 ⊢
      refine ⟨⟨_, _, rfl, by omega, ?_⟩, by omega⟩
      unfold Bd at *
      have p : (2 : Nat) ^ (25 * (i + 1)) = 2 ^ (25 * i) * 33554432 := by rw [Nat.mul_add, Nat.pow_add]
      rw [p]
      omega
    · obtain ⟨⟨f, o, rfl, f0, bf⟩, hB'⟩ := hI
      exact ⟨⟨_, _, rfl, f0, bf.mono (by omega)⟩, by omega⟩
  rintro _ B9 ⟨⟨f, o, rfl, f0, bf⟩, hB9⟩
  exact ws_ret (we_var rfl (hk _ _ f0 bf hB9))
theorem bd9 {d : Int} {m : Nat} (h0 : 0 ≤ d) (h1 : d < 9) (hm : 4 ≤ m) : Bd m d := Nat.lt_of_lt_of_le (by omega : d.natAbs < 2 ^ 4) (Nat.pow_le_pow_right (by decide) hm)
def pr_l_great (T : Tx K mg) : Pr := fun ds B k e => ds = [penF] ∧ B ≤ 800000 ∧ ∀ (i : Int) B', 0 ≤ i → Bd 100 i → B' ≤ B + 6 → k (.int i) B'
theorem okD_l_great (T : Tx K mg) : FnOk P w K mg base (L2.CX P w) 4 T.a_l_great T.d_l_great P_l_great (spD K (pr_l_great T)) := by
  refine T.F_l_great.okX sc_l_great (spD_len fun ds B k e h => by obtain ⟨rfl, hB, hk⟩ := h; rfl) (fun cdv A outer s H vs Q E hr h => ?_)
  have G_l_draw : FnOk P w K mg base (L2.CX P w) 1 _ _ _ _ := okD_l_draw T
  have G_l_number : FnOk P w K mg base (L2.CX P w) 3 _ _ _ _ := okD_l_number T
  obtain ⟨G, ds, B, k, e, hs, hR, ⟨rfl, hB, hk⟩, hK, hX⟩ := h
  refine ⟨_, (pss_one (ps_ret (pe_ifExp (pt_cmpR op_eq (pe_call G_l_draw (hr.mono (by decide)) (by rfl) T.g_l_draw T.F_l_draw.kp T.b_l_draw .nil passL (pa_cons (pv 0) (pa_cons pe_int pa_nil))) pe_int (nomark _)) (pe_call G_l_draw (hr.mono (by decide)) (by rfl) T.g_l_draw T.F_l_draw.kp T.b_l_draw .nil passL (pa_cons (pv 0) (pa_cons pe_int pa_nil))) (pe_call G_l_number (hr.mono (by decide)) (by rfl) T.g_l_number T.F_l_number.kp T.b_l_number .nil passL (pa_cons (pv 0) (pa_cons pe_int pa_nil)))))), run_body (ρ := [some penF]) hs hR hK hX rfl ?_⟩
  refine ws_ret <| we_ifE <| wt_test <| we_op <| we_call <| wa_cons <| we_var rfl <| wa_cons <| we_int <| wa_nil ⟨4, rfl, by decide, by decide, by omega, fun d d0 d1 => we_int <| ro_eqI ⟨_, rfl, fun _ => ?_, fun _ => ?_⟩⟩
  · exact we_call <| wa_cons <| we_var rfl <| wa_cons <| we_int <| wa_nil ⟨9, rfl, by decide, by decide, by omega, fun d d0 d1 => hk d _ d0 (bd9 d0 d1 (by decide)) (by omega)⟩
  · exact we_call <| wa_cons <| we_var rfl <| wa_cons <| we_int <| wa_nil ⟨4, rfl, by decide, by decide, by omega, fun i B' i0 bi hB' => hk i B' i0 bi (by omega)⟩
def pr_l_signed (T : Tx K mg) : Pr := fun ds B k e => ds = [penF] ∧ B ≤ 800000 ∧ ∀ (i : Int) B', Bd 100 i → B' ≤ B + 7 → k (.int i) B'
theorem okD_l_signed (T : Tx K mg) : FnOk P w K mg base (L2.CX P w) 5 T.a_l_signed T.d_l_signed P_l_signed (spD K (pr_l_signed T)) := by
  refine T.F_l_signed.okX sc_l_signed (spD_len fun ds B k e h => by obtain ⟨rfl, hB, hk⟩ := h; rfl) (fun cdv A outer s H vs Q E hr h => ?_)
  have G_l_great : FnOk P w K mg base (L2.CX P w) 4 _ _ _ _ := okD_l_great T
  have G_l_pick : FnOk P w K mg base (L2.CX P w) 2 _ _ _ _ := okD_l_pick T
  obtain ⟨G, ds, B, k, e, hs, hR, ⟨rfl, hB, hk⟩, hK, hX⟩ := h
  refine ⟨_, (pss_one (ps_ret (pe_op op_mulW (pe_call G_l_great (hr.mono (by decide)) (by rfl) T.g_l_great T.F_l_great.kp T.b_l_great .nil passL (pa_cons (pv 0) pa_nil)) (pe_call G_l_pick (hr.mono (by decide)) (by rfl) T.g_l_pick T.F_l_pick.kp T.b_l_pick .nil passL (pa_cons (pv 0) (pa_cons (pe_lst (pa_cons pe_int (pa_cons (pe_un un_neg pe_int) pa_nil))) pa_nil)))))), run_body (ρ := [some penF]) hs hR hK hX rfl ?_⟩
  refine ws_ret <| we_op <| we_call <| wa_cons <| we_var rfl <| wa_nil ⟨rfl, hB, fun i B' i0 bi hB' => we_call <| wa_cons <| we_var rfl <| wa_cons <| we_lst <| wa_cons <| we_int <| wa_cons <| we_neg <| we_int ⟨_, rfl, wa_nil ⟨Nat.le_of_ble_eq_true rfl, wa_nil ⟨_, rfl, .inl ⟨_, rfl, by show 0 < 2; decide, by show 2 ≤ 1000000; decide, by omega, fun f hf => ?_⟩⟩⟩⟩⟩
  simp only [List.mem_cons, List.not_mem_nil, or_false] at hf
  rcases hf with rfl | rfl
  · exact ro_i (cmw (bi.mono (by decide)) (show Bd 8000 1 from Nat.one_lt_two_pow (by decide))) (by rw [Int.mul_one]; exact hk i _ bi (by omega))
  · exact ro_i (cmw (bi.mono (by decide)) (show Bd 8000 (-1) from Nat.one_lt_two_pow (by decide))) (by rw [show i * -1 = -i by omega]; exact hk (-i) _ bi.neg (by omega))
end
end AW

set_option linter.all false
set_option maxRecDepth 100000
set_option maxHeartbeats 8000000
namespace AW
open PySem PySem.Spec PyProof.Rows L2 Fewest
variable [Tbs]
section
variable {P : Program} {w : World} {K : PySem.W.Frag} {mg : Str → Option Value} {base : Heap} [CDict K w "DIRECTIONS" L_DIRECTIONS]
theorem gone_mu (p : T3) (t : Int) : mu p (posF [("e", t)]) = (p.1 + t, p.2.1, p.2.2) ∧ mu p (posF [("w", t)]) = (p.1 - t, p.2.1, p.2.2) ∧ mu p (posF [("n", t)]) = (p.1, p.2.1 + t, p.2.2 + p.1 * t) ∧ mu p (posF [("s", t)]) = (p.1, p.2.1 - t, p.2.2 - p.1 * t) := by
  have d : (dx "e" = 1 ∧ dy "e" = 0) ∧ (dx "w" = -1 ∧ dy "w" = 0) ∧ (dx "n" = 0 ∧ dy "n" = 1) ∧ (dx "s" = 0 ∧ dy "s" = -1) := by decide +kernel
  rw [posF_run, posF_run, posF_run, posF_run, d.1.1, d.1.2, d.2.1.1, d.2.1.2, d.2.2.1.1, d.2.2.1.2, d.2.2.2.1, d.2.2.2.2]
  simp only [mu, Int.one_mul, Int.zero_mul, Int.mul_zero, Int.add_zero, Int.neg_mul, Int.mul_neg, Prod.mk.injEq, true_and, and_true]
  omega
theorem in_ew : (!(Builtin.Str.occurrences ("ew" : Str) ("e" : Str) 0 ("ew" : Str).length 1).isEmpty) = true ∧ (!(Builtin.Str.occurrences ("ew" : Str) ("w" : Str) 0 ("ew" : Str).length 1).isEmpty) = true ∧
    (!(Builtin.Str.occurrences ("ew" : Str) ("n" : Str) 0 ("ew" : Str).length 1).isEmpty) = false ∧ (!(Builtin.Str.occurrences ("ew" : Str) ("s" : Str) 0 ("ew" : Str).length 1).isEmpty) = false := by decide +kernel
theorem lt_ne : (decide (("e" : Str) = "e") = true ∧ decide (("w" : Str) = "e") = false ∧ decide (("n" : Str) = "n") = true ∧ decide (("s" : Str) = "n") = false) := by decide +kernel
def pr_l_step (T : Tx K mg) : Pr := fun ds B k e => ∃ (p : T3) (c : Str) (t : Int), ds = [tD p, .str c, .int t] ∧ c ∈ chS "enws" ∧ CMulW p.1 t ∧ k (tD (mu p (posF [(c, t)]))) B
theorem okD_l_step (T : Tx K mg) : FnOk P w K mg base (L2.CX P w) 1 T.a_l_step T.d_l_step P_l_step (spD K (pr_l_step T)) := by
  refine T.F_l_step.okX sc_l_step (spD_len fun ds B k e h => by obtain ⟨p, c, t, rfl, hc, cw, hk⟩ := h; rfl) (fun cdv A outer s H vs Q E hr h => ?_)
  obtain ⟨G, ds, B, k, e, hs, hR, ⟨p, c, t, rfl, hc, cw, hk⟩, hK, hX⟩ := h
  refine ⟨_, (pss_cons (ps_asg (pv 0) (pg_tup rfl (pgs_cons (pg_name (i := 3) sc_l_step.nd rfl (.inl rfl)) (pgs_cons (pg_name (i := 4) sc_l_step.nd rfl (.inl rfl)) (pgs_cons (pg_name (i := 5) sc_l_step.nd rfl (.inl rfl)) pgs_nil)))))
 (pss_cons (ps_if (pt_cmpR op_in_str (pv 1) pe_str (by rfl))
 (pss_one (ps_ret (pe_tup (pa_cons (pe_ifExp (pt_cmpR op_eq (pv 1) pe_str (nomark _)) (pe_op op_add (pv 3) (pv 2)) (pe_op op_sub (pv 3) (pv 2))) (pa_cons (pv 4) (pa_cons (pv 5) pa_nil))))))
 pss_nil)
 (pss_one (ps_ret (pe_ifExp (pt_cmpR op_eq (pv 1) pe_str (nomark _)) (pe_tup (pa_cons (pv 3) (pa_cons (pe_op op_add (pv 4) (pv 2)) (pa_cons (pe_op op_add (pv 5) (pe_op op_mulW (pv 3) (pv 2))) pa_nil)))) (pe_tup (pa_cons (pv 3) (pa_cons (pe_op op_sub (pv 4) (pv 2)) (pa_cons (pe_op op_sub (pv 5) (pe_op op_mulW (pv 3) (pv 2))) pa_nil))))))))), run_body (ρ := [some (tD p), some (.str c), some (.int t), none, none, none]) hs hR hK hX rfl ?_⟩
  have z3 : 3 ≤ sizeLine := by decide
  obtain ⟨gE, gW, gN, gS⟩ := gone_mu p t
  refine ws_seq <| ws_asg <| we_var rfl <| wg_tup rfl <| wgs_cons <| wg_name <| wgs_cons <| wg_name <| wgs_cons <| wg_name <| wgs_nil ?_
  rcases mem_enws hc with rfl | rfl | rfl | rfl
  · rw [gE] at hk
    refine ws_seq <| ws_if <| wt_test <| we_op <| we_var rfl <| we_str <| ro_inS ⟨_, rfl, fun _ => ?_, fun h => ?_⟩
    · exact ws_ret <| we_tup <| wa_cons <| we_ifE <| wt_test <| we_op <| we_var rfl <| we_str <| ro_eqS ⟨_, rfl, fun _ => we_op <| we_var rfl <| we_var rfl <| ro_i0 <| wa_cons <| we_var rfl <| wa_cons <| we_var rfl <| wa_nil ⟨z3, hk⟩, fun h => absurd (lt_ne.1.symm.trans h) (by decide)⟩
    · exact absurd (in_ew.1.symm.trans h) (by decide)
  · rw [gN] at hk
    refine ws_seq <| ws_if <| wt_test <| we_op <| we_var rfl <| we_str <| ro_inS ⟨_, rfl, fun h => ?_, fun _ => ws_next ?_⟩
    · exact absurd (in_ew.2.2.1.symm.trans h) (by decide)
    exact ws_ret <| we_ifE <| wt_test <| we_op <| we_var rfl <| we_str <| ro_eqS ⟨_, rfl, fun _ => we_tup <| wa_cons <| we_var rfl <| wa_cons <| we_op <| we_var rfl <| we_var rfl <| ro_i0 <| wa_cons <| we_op <| we_var rfl <| we_op <| we_var rfl <| we_var rfl <| ro_i cw <| ro_i0 <| wa_nil ⟨z3, hk⟩, fun h => absurd (lt_ne.2.2.1.symm.trans h) (by decide)⟩
  · rw [gW] at hk
    refine ws_seq <| ws_if <| wt_test <| we_op <| we_var rfl <| we_str <| ro_inS ⟨_, rfl, fun _ => ?_, fun h => ?_⟩
    · exact ws_ret <| we_tup <| wa_cons <| we_ifE <| wt_test <| we_op <| we_var rfl <| we_str <| ro_eqS ⟨_, rfl, fun h => absurd (lt_ne.2.1.symm.trans h) (by decide), fun _ => we_op <| we_var rfl <| we_var rfl <| ro_i0 <| wa_cons <| we_var rfl <| wa_cons <| we_var rfl <| wa_nil ⟨z3, hk⟩⟩
    · exact absurd (in_ew.2.1.symm.trans h) (by decide)
  · rw [gS] at hk
    refine ws_seq <| ws_if <| wt_test <| we_op <| we_var rfl <| we_str <| ro_inS ⟨_, rfl, fun h => ?_, fun _ => ws_next ?_⟩
    · exact absurd (in_ew.2.2.2.symm.trans h) (by decide)
    exact ws_ret <| we_ifE <| wt_test <| we_op <| we_var rfl <| we_str <| ro_eqS ⟨_, rfl, fun h => absurd (lt_ne.2.2.2.symm.trans h) (by decide), fun _ => we_tup <| wa_cons <| we_var rfl <| wa_cons <| we_op <| we_var rfl <| we_var rfl <| ro_i0 <| wa_cons <| we_op <| we_var rfl <| we_op <| we_var rfl <| we_var rfl <| ro_i cw <| ro_i0 <| wa_nil ⟨z3, hk⟩⟩
theorem posF_tk {ps : List Rn} {i : Nat} {q : Rn} (h : ps[i]? = some q) : posF (ps.take (i + 1)) = mu (posF (ps.take i)) (posF [q]) := by
  rw [List.take_add_one, h, Option.toList_some, posF_append]
theorem take_cmul {ps : List Rn} (g : GoodR ps) (hb : Bd 3000 (sumR ps)) {i : Nat} {q : Rn} (h : ps[i]? = some q) : CMulW (posF (ps.take i)).1 q.2 := by
  have h1 := (posF_abs (g.take i)).1
  have h2 := sumR_take g i
  have hm := List.mem_of_getElem? h
  have h3 := good_le g q hm
  have h4 := (g q hm).2
  refine cmw (Bd.mono (k := 3000) ?_ (by decide)) (Bd.mono (k := 3000) ?_ (by decide))
  · unfold ab at h1; unfold Bd at *; omega
  · unfold Bd at *; omega
def pr_l_led (T : Tx K mg) : Pr := fun ds B k e => ∃ (b : Bool) (ps : List Rn), ds = [seqD b (ps.map prD)] ∧ GoodR ps ∧ Bd 3000 (sumR ps) ∧ k (tD (posF ps)) B
theorem okD_l_led (T : Tx K mg) : FnOk P w K mg base (L2.CX P w) 2 T.a_l_led T.d_l_led P_l_led (spD K (pr_l_led T)) := by
  refine T.F_l_led.okX sc_l_led (spD_len fun ds B k e h => by obtain ⟨b, ps, rfl, hg, hb, hk⟩ := h; rfl) (fun cdv A outer s H vs Q E hr h => ?_)
  have G_l_step : FnOk P w K mg base (L2.CX P w) 1 _ _ _ _ := okD_l_step T
  obtain ⟨G, ds, B, k, e, hs, hR, ⟨b, ps, rfl, hg, hb, hk⟩, hK, hX⟩ := h
  refine ⟨_, (pss_cons (ps_set (i := 1) sc_l_led.nd rfl (.inl rfl) (pe_tup (pa_cons pe_int (pa_cons pe_int (pa_cons pe_int pa_nil)))))
 (pss_cons (ps_for (passes_of rfl) rfl (pi_or (pi_list (pv 0)) (pi_tup (pv 0))) (pg_tup rfl (pgs_cons (pg_name (i := 2) sc_l_led.nd rfl (.inl rfl)) (pgs_cons (pg_name (i := 3) sc_l_led.nd rfl (.inl rfl)) pgs_nil)))
 (pss_one (ps_set (i := 1) sc_l_led.nd rfl (.inl rfl) (pe_call G_l_step (hr.mono (by decide)) (by rfl) T.g_l_step T.F_l_step.kp T.b_l_step .nil passL (pa_cons (pv 1) (pa_cons (pv 2) (pa_cons (pv 3) pa_nil)))))))
 (pss_one (ps_ret (pv 1))))), run_body (ρ := [some (seqD b (ps.map prD)), none, none, none]) hs hR hK hX rfl ?_⟩
  have z3 : 3 ≤ sizeLine := by decide
  refine ws_seq <| ws_set <| we_tup <| wa_cons <| we_int <| wa_cons <| we_int <| wa_cons <| we_int <| wa_nil ⟨z3, ?_⟩
  refine ws_cut (fun ρ' B' => ∃ o2 o3, ρ' = [some (seqD b (ps.map prD)), some (tD (posF ps)), o2, o3] ∧ B = B') ?_ ?_
  · refine ws_for_seq b <| we_var rfl ⟨_, rfl, fun i ρ' B' => (∃ o2 o3, ρ' = [some (seqD b (ps.map prD)), some (tD (posF (ps.take i))), o2, o3]) ∧ B = B', ⟨⟨_, _, rfl⟩, rfl⟩, fun i d ρ' B' hi hI => ?_, fun ρ' B' hI => ?_⟩
    · obtain ⟨⟨o2, o3, rfl⟩, rfl⟩ := hI
      rw [List.getElem?_map] at hi
      obtain ⟨q, hq, rfl⟩ := Option.map_eq_some_iff.mp hi
      refine wg_tup rfl <| wgs_cons <| wg_name <| wgs_cons <| wg_name <| wgs_nil ?_
      refine ws_set <| we_call <| wa_cons <| we_var rfl <| wa_cons <| we_var rfl <| wa_cons <| we_var rfl <| wa_nil ⟨posF (ps.take i), q.1, q.2, rfl, (hg q (List.mem_of_getElem? hq)).1, take_cmul hg hb hq, ⟨⟨some (.str q.1), some (.int q.2), ?_⟩, rfl⟩⟩
      rw [posF_tk hq]
      rfl
    · obtain ⟨⟨o2, o3, rfl⟩, rfl⟩ := hI
      rw [List.length_map, List.take_length]
      exact ⟨_, _, rfl, rfl⟩
  rintro _ _ ⟨o2, o3, rfl, rfl⟩
  exact ws_ret <| we_var rfl hk
end
end AW

set_option linter.all false
set_option maxRecDepth 100000
set_option maxHeartbeats 8000000
namespace AW
open PySem PySem.Spec PyProof.Rows L2 Fewest
variable [Tbs]
section
variable {P : Program} {w : World} {K : PySem.W.Frag} {mg : Str → Option Value} {base : Heap} [CDict K w "DIRECTIONS" L_DIRECTIONS]
abbrev ccD (ps : List Rn) : D := .lst [.int (cnt "e" ps), .int (cnt "n" ps), .int (cnt "w" ps), .int (cnt "s" ps)]
def pr_l_counts (T : Tx K mg) : Pr := fun ds B k e => ∃ ps : List Rn, ds = [.lst (ps.map prD)] ∧ ps.length ≤ 1000 ∧ k (ccD ps) B
theorem filt_sum (c : Str) : ∀ ps : List Rn, ((ps.filter fun q => decide (q.1 = c)).map fun q => q.2).sum = cnt c ps
  | [] => rfl
  | q :: ps => by
    rw [cnt_cons, ← filt_sum c ps]
    by_cases h : q.1 = c
    · rw [List.filter_cons_of_pos (by simpa using h), if_pos h, List.map_cons, List.sum_cons]
    · rw [List.filter_cons_of_neg (by simpa using h), if_neg h, Int.zero_add]
theorem okD_l_counts (T : Tx K mg) : FnOk P w K mg base (L2.CX P w) 1 T.a_l_counts T.d_l_counts P_l_counts (spD K (pr_l_counts T)) := by
  refine T.F_l_counts.okX sc_l_counts (spD_len fun ds B k e h => by obtain ⟨ps, rfl, hl, hk⟩ := h; rfl) (fun cdv A outer s H vs Q E hr h => ?_)
  obtain ⟨G, ds, B, k, e, hs, hR, ⟨ps, rfl, hl, hk⟩, hK, hX⟩ := h
  refine ⟨_, (pss_one (ps_ret (pe_lc (te := (tCB (rSum K) (tCons (tLc (iList K (tVar 0)) (gTup K 2 (gCons (gName 2) (gCons (gName 3) gNil))) (tTest (tOp rEq (tVar 2) (tVar 1))) (tVar 3) [2, 3]) tNil))) (own := [("_law_kind", 1)]) (g := gName 1) (by rfl) sc_l_counts.nd (pi_str pe_str) (blkOk_by (own := [("_law_kind", 1)]) (N := N_l_counts) (sc := defScope s_l_counts) (by decide +kernel)) (fun _ _ _ _ _ => pg_name (i := 1) sc_l_counts.nd rfl (Or.inr rfl)) (fun _ _ _ _ _ => pts_nil) (fun _ _ _ _ _ => (pe_callB (cr_sum rfl) (by rfl) T.n_sum (by decide +kernel) (pa_cons (pe_lc (own := [("_law_letter", 2), ("_law_times", 3)]) (g := gTup K 2 (gCons (gName 2) (gCons (gName 3) gNil))) (by rfl) sc_l_counts.nd (pi_list (pv 0)) (blkOk_by (own := [("_law_letter", 2), ("_law_times", 3)]) (N := N_l_counts) (sc := { kind := .function, names := [(".0", .local), ("_law_kind", .cell), ("sum", .globalImplicit), ("_law_runs", .cell)], isGenerator := false, isCoroutine := false }) (by decide +kernel)) (fun _ _ _ _ _ => pg_tup rfl (pgs_cons (pg_name (i := 2) sc_l_counts.nd rfl (Or.inl rfl)) (pgs_cons (pg_name (i := 3) sc_l_counts.nd rfl (Or.inl rfl)) pgs_nil))) (fun _ _ _ _ _ => (pts_one (pt_cmpR op_eq (pv 2) (pv 1) (nomark _)))) (fun _ _ _ _ _ => (pv 3))) pa_nil)))))), run_body (ρ := [some (.lst (ps.map prD)), none, none, none]) hs hR hK hX rfl ?_⟩
  have zL : 1000 < sizeLine := by decide
  refine ws_ret <| we_lc_strL (E1 := E0) <| we_str ⟨_, fun c => .int (cnt c ps), rfl, by rw [chS_enws]; decide, fun c hc k' hk' => ?_, by rw [chS_enws]; exact hk⟩
  refine we_sum <| wa_cons <| we_lc_pairLf (α := Rn) (fx := fun q => .str q.1) (fy := fun q => .int q.2) (f := fun q => .int q.2) (E1 := E0) (by decide) <| we_var rfl ⟨ps, fun q => decide (q.1 = c), rfl, by omega, fun q hq kb hb => ?_, fun q hq k2 hk2 => we_var rfl hk2, wa_nil ⟨(ps.filter fun q => decide (q.1 = c)).map fun q => q.2, by rw [List.map_map]; rfl, by rw [filt_sum]; exact hk'⟩⟩
  exact wt_test <| we_op <| we_var rfl <| we_var rfl <| ro_eqS ⟨_, rfl, hb⟩
end
end AW

set_option linter.all false
set_option maxRecDepth 100000
set_option maxHeartbeats 2000000
namespace AW
/-- sides that hold the product -/
def Fr (a u P W H : Int) : Prop := a ≤ W ∧ u ≤ H ∧ P ≤ W * H
/-- a cheapest frame -/
structure CF (a u P w h W H : Int) : Prop where
  fr : Fr a u P W H
  le : ∀ W' H', Fr a u P W' H' → w * W + h * H ≤ w * W' + h * H'
def cu (n d : Int) : Int := -((-n).fdiv d)
theorem cu_ge {n d : Int} (hd : 0 < d) : n ≤ d * cu n d ∧ d * (cu n d - 1) < n := by
  unfold cu
  have h1 := Int.fmod_add_mul_fdiv (-n) d
  have h2 := Int.fmod_nonneg_of_pos (-n) hd
  have h3 := Int.fmod_lt_of_pos (-n) hd
  have e1 : d * -((-n).fdiv d) = -(d * (-n).fdiv d) := by grind
  have e2 : d * (-((-n).fdiv d) - 1) = -(d * (-n).fdiv d) - d := by grind
  rw [e1, e2]
  generalize d * (-n).fdiv d = q at h1 ⊢
  omega
theorem cu_le {n d k : Int} (hd : 0 < d) (h : n ≤ d * k) : cu n d ≤ k := by
  have := (cu_ge (n := n) hd).2
  have h2 : d * (cu n d - 1) < d * k := by omega
  have := Int.lt_of_mul_lt_mul_left h2 (by omega)
  omega
theorem CF.swap {a u P w h W H : Int} (c : CF u a P h w H W) : CF a u P w h W H := by
  obtain ⟨⟨f1, f2, f3⟩, l⟩ := c
  refine ⟨⟨f2, f1, by rw [Int.mul_comm]; exact f3⟩, fun W' H' ⟨g1, g2, g3⟩ => ?_⟩
  have := l H' W' ⟨g2, g1, by rw [Int.mul_comm]; exact g3⟩
  omega
theorem CF.scale {a u P w h W H g : Int} (hg : 0 < g) (c : CF a u P w h W H) : CF a u P (g * w) (g * h) W H := by
  refine ⟨c.fr, fun W' H' f => ?_⟩
  have := Int.mul_le_mul_of_nonneg_left (c.le W' H' f) (show 0 ≤ g by omega)
  grind
theorem CF.corner {a u P w h : Int} (hw : 0 ≤ w) (hh : 0 ≤ h) (hp : P ≤ a * u) : CF a u P w h a u :=
  ⟨⟨Int.le_refl _, Int.le_refl _, hp⟩, fun W' H' ⟨g1, g2, _⟩ => by
    have := Int.mul_le_mul_of_nonneg_left g1 hw
    have := Int.mul_le_mul_of_nonneg_left g2 hh
    omega⟩
/-- what a bargain is about -/
structure Bg (a u P w h : Int) : Prop where
  a0 : 0 ≤ a
  u0 : 0 ≤ u
  hp : a * u < P
  w0 : 0 < w
  h0 : 0 < h
theorem Bg.p0 {a u P w h : Int} (b : Bg a u P w h) : 0 < P := by
  have := Int.mul_nonneg b.a0 b.u0
  have := b.hp
  omega
theorem Fr.pos {a u P w h W H : Int} (b : Bg a u P w h) (f : Fr a u P W H) : 0 < W ∧ 0 < H := by
  obtain ⟨f1, f2, f3⟩ := f
  have p := b.p0
  have a0 := b.a0
  have u0 := b.u0
  constructor
  · refine Int.lt_of_not_ge fun z => ?_
    have : W = 0 := by omega
    subst this
    rw [Int.zero_mul] at f3
    omega
  · refine Int.lt_of_not_ge fun z => ?_
    have : H = 0 := by omega
    subst this
    rw [Int.mul_zero] at f3
    omega
def nar (a : Int) : Int := max a 1
def wid (a u P : Int) : Int := max (nar a) (cu P (max u 1))
/-- the least height at a width -/
def hgt (u P W : Int) : Int := max u (cu P W)
def cst (u P w h W : Int) : Int := w * W + h * hgt u P W
theorem hgt_fr {a u P W : Int} (ha : a ≤ W) (hW : 0 < W) : Fr a u P W (hgt u P W) := by
  refine ⟨ha, Int.le_max_left .., ?_⟩
  have h1 := (cu_ge (n := P) hW).1
  have h2 : W * cu P W ≤ W * hgt u P W := Int.mul_le_mul_of_nonneg_left (Int.le_max_right ..) (by omega)
  omega
theorem cst_le {a u P w h W H : Int} (b : Bg a u P w h) (f : Fr a u P W H) : cst u P w h W ≤ w * W + h * H := by
  have hW := (f.pos b).1
  have h1 : hgt u P W ≤ H := Int.max_le.mpr ⟨f.2.1, cu_le hW f.2.2⟩
  have := Int.mul_le_mul_of_nonneg_left h1 (show 0 ≤ h from Int.le_of_lt b.h0)
  unfold cst
  omega
/-- frames wider than the widest are dearer -/
theorem cst_wid {a u P w h W H : Int} (b : Bg a u P w h) (f : Fr a u P W H) (hW : wid a u P < W) : cst u P w h (wid a u P) ≤ w * W + h * H := by
  obtain ⟨W0, H0⟩ := f.pos b
  have m0 : 0 < max u 1 := by omega
  have hH : max u 1 ≤ H := Int.max_le.mpr ⟨f.2.1, by omega⟩
  have hn : 1 ≤ wid a u P := by unfold wid nar; omega
  have h1 : hgt u P (wid a u P) ≤ max u 1 := by
    refine Int.max_le.mpr ⟨Int.le_max_left .., cu_le (by omega) ?_⟩
    have h2 := (cu_ge (n := P) m0).1
    have h3 : max u 1 * cu P (max u 1) ≤ max u 1 * wid a u P := Int.mul_le_mul_of_nonneg_left (Int.le_max_right ..) (by omega)
    rw [Int.mul_comm (wid a u P)]
    omega
  have h4 := Int.mul_le_mul_of_nonneg_left (Int.le_trans h1 hH) (show 0 ≤ h from Int.le_of_lt b.h0)
  have h5 := Int.mul_le_mul_of_nonneg_left (show wid a u P ≤ W by omega) (show 0 ≤ w from Int.le_of_lt b.w0)
  unfold cst
  omega
theorem cst_mul {u P w h W : Int} (hh : 0 ≤ h) (hW : 0 < W) : w * W * W + h * P ≤ cst u P w h W * W := by
  unfold cst
  have h1 := (cu_ge (n := P) hW).1
  have h2 : W * cu P W ≤ W * hgt u P W := Int.mul_le_mul_of_nonneg_left (Int.le_max_right ..) (by omega)
  have h3 : h * P ≤ h * (W * hgt u P W) := Int.mul_le_mul_of_nonneg_left (by omega) hh
  have e : (w * W + h * hgt u P W) * W = w * W * W + h * (W * hgt u P W) := by grind
  rw [e]; omega
/-- no cheaper one above -/
theorem stop_up {u P w h c W W' : Int} (hh : 0 ≤ h) (hw : 0 ≤ w) (hW : 0 < W) (hl : W ≤ W') (hs : h * P ≤ w * W * W) (hc : c * W ≤ w * W * W + h * P) : c ≤ cst u P w h W' := by
  have h1 := cst_mul (u := u) (P := P) (w := w) (W := W') hh (by omega)
  have h2 : 0 ≤ (W' - W) * (w * W * W' - h * P) := by
    refine Int.mul_nonneg (by omega) ?_
    have : w * W * W ≤ w * W * W' := Int.mul_le_mul_of_nonneg_left hl (Int.mul_nonneg hw (by omega))
    omega
  have h3 : W' * (c * W) ≤ W' * (w * W * W + h * P) := Int.mul_le_mul_of_nonneg_left hc (by omega)
  have h4 : W * (w * W' * W' + h * P) ≤ W * (cst u P w h W' * W') := Int.mul_le_mul_of_nonneg_left h1 (by omega)
  have e : (W' - W) * (w * W * W' - h * P) = W * (w * W' * W' + h * P) - W' * (w * W * W + h * P) := by grind
  have h5 : (W * W') * c ≤ (W * W') * cst u P w h W' := by
    have e1 : (W * W') * c = W' * (c * W) := by grind
    have e2 : (W * W') * cst u P w h W' = W * (cst u P w h W' * W') := by grind
    rw [e1, e2]; omega
  exact Int.le_of_mul_le_mul_left h5 (Int.mul_pos hW (by omega))
/-- no cheaper one below -/
theorem stop_down {u P w h c W W' : Int} (hh : 0 ≤ h) (hw : 0 ≤ w) (hW : 0 < W') (hl : W' ≤ W) (hs : w * W * W ≤ h * P) (hc : c * W ≤ w * W * W + h * P) : c ≤ cst u P w h W' := by
  have h1 := cst_mul (u := u) (P := P) (w := w) (W := W') hh hW
  have h2 : 0 ≤ (W - W') * (h * P - w * W * W') := by
    refine Int.mul_nonneg (by omega) ?_
    have : w * W * W' ≤ w * W * W := Int.mul_le_mul_of_nonneg_left hl (Int.mul_nonneg hw (by omega))
    omega
  have h3 : W' * (c * W) ≤ W' * (w * W * W + h * P) := Int.mul_le_mul_of_nonneg_left hc (by omega)
  have h4 : W * (w * W' * W' + h * P) ≤ W * (cst u P w h W' * W') := Int.mul_le_mul_of_nonneg_left h1 (by omega)
  have e : (W - W') * (h * P - w * W * W') = W * (w * W' * W' + h * P) - W' * (w * W * W + h * P) := by grind
  have h5 : (W * W') * c ≤ (W * W') * cst u P w h W' := by
    have e1 : (W * W') * c = W' * (c * W) := by grind
    have e2 : (W * W') * cst u P w h W' = W * (cst u P w h W' * W') := by grind
    rw [e1, e2]; omega
  exact Int.le_of_mul_le_mul_left h5 (Int.mul_pos (by omega) hW)
/-- the start: widths above it are above the best, those below it below -/
def stt (a u P w h r : Int) : Int := min (max r (nar a)) (wid a u P)
theorem stt_in {a u P w h r : Int} : nar a ≤ stt a u P w h r ∧ stt a u P w h r ≤ wid a u P := by
  unfold stt wid; omega
theorem stt_up {a u P w h r W : Int} (hw : 0 < w) (hr : 0 ≤ r) (hq : h * P < w * ((r + 1) * (r + 1))) (h1 : stt a u P w h r < W) (h2 : W ≤ wid a u P) : h * P ≤ w * W * W := by
  have : r + 1 ≤ W := by unfold stt at h1; omega
  have h3 : (r + 1) * (r + 1) ≤ W * W := Int.mul_le_mul this this (by omega) (by omega)
  have h4 := Int.mul_le_mul_of_nonneg_left h3 (show 0 ≤ w by omega)
  rw [Int.mul_assoc]; omega
theorem stt_down {a u P w h r W : Int} (hw : 0 < w) (hq : w * (r * r) ≤ h * P) (h0 : 0 < W) (h1 : W < stt a u P w h r) (h2 : nar a ≤ W) : w * W * W ≤ h * P := by
  have : W ≤ r := by unfold stt at h1; omega
  have h3 : W * W ≤ r * r := Int.mul_le_mul this this (by omega) (by omega)
  have h4 := Int.mul_le_mul_of_nonneg_left h3 (show 0 ≤ w by omega)
  rw [Int.mul_assoc]; omega
/-- all widths seen: a cheapest frame -/
theorem CF.all {a u P w h W H : Int} (b : Bg a u P w h) (f : Fr a u P W H) (hl : ∀ W', nar a ≤ W' → W' ≤ wid a u P → w * W + h * H ≤ cst u P w h W') : CF a u P w h W H := by
  refine ⟨f, fun W' H' f' => ?_⟩
  have hW := (f'.pos b).1
  have hn : nar a ≤ W' := by unfold nar; have := f'.1; omega
  by_cases z : W' ≤ wid a u P
  · exact Int.le_trans (hl W' hn z) (cst_le b f')
  · exact Int.le_trans (hl _ (by unfold wid; omega) (Int.le_refl _)) (cst_wid b f' (by omega))
theorem lc_side {a u P w h W H : Int} (b : Bg a u P w h) (f : Fr a u P W H) (hs : h * P ≤ w * a * a) : w * a + cu (h * P) a ≤ w * W + h * H := by
  have p := b.p0
  have hp : 0 < h * P := Int.mul_pos b.h0 p
  have a0 : 0 < a := by
    refine Int.lt_of_not_ge fun z => ?_
    have : a = 0 := by have := b.a0; omega
    subst this
    rw [Int.mul_zero] at hs
    omega
  have W0 := (f.pos b).1
  have c1 : w * W * W + h * P ≤ (w * W + h * H) * W := by
    have : h * P ≤ h * (W * H) := Int.mul_le_mul_of_nonneg_left f.2.2 (Int.le_of_lt b.h0)
    have e : (w * W + h * H) * W = w * W * W + h * (W * H) := by grind
    rw [e]; omega
  have h2 : 0 ≤ (W - a) * (w * a * W - h * P) := by
    refine Int.mul_nonneg (by have := f.1; omega) ?_
    have : w * a * a ≤ w * a * W := Int.mul_le_mul_of_nonneg_left f.1 (Int.mul_nonneg (Int.le_of_lt b.w0) (by omega))
    omega
  have h3 : a * (w * W * W + h * P) ≤ a * ((w * W + h * H) * W) := Int.mul_le_mul_of_nonneg_left c1 (by omega)
  have e : (W - a) * (w * a * W - h * P) = a * (w * W * W + h * P) - W * (w * a * a + h * P) := by grind
  have h4 : W * (w * a * a + h * P) ≤ W * (a * (w * W + h * H)) := by
    have e2 : W * (a * (w * W + h * H)) = a * ((w * W + h * H) * W) := by grind
    rw [e2]; omega
  have h5 := Int.le_of_mul_le_mul_left h4 W0
  have h6 : cu (h * P) a ≤ (w * W + h * H) - w * a := by
    refine cu_le a0 ?_
    have e3 : a * (w * W + h * H - w * a) = a * (w * W + h * H) - w * a * a := by grind
    rw [e3]; omega
  omega
theorem lc_mid {a u P w h W H r : Int} (b : Bg a u P w h) (f : Fr a u P W H) (hr0 : 0 ≤ r) (hr : r * r ≤ 4 * w * h * P - 1) : r + 1 ≤ w * W + h * H := by
  obtain ⟨W0, H0⟩ := f.pos b
  have x0 : 0 < w * W := Int.mul_pos b.w0 W0
  have y0 : 0 < h * H := Int.mul_pos b.h0 H0
  have h1 : 4 * w * h * P ≤ 4 * (w * W) * (h * H) := by
    have e : 4 * (w * W) * (h * H) = 4 * w * h * (W * H) := by grind
    rw [e]
    exact Int.mul_le_mul_of_nonneg_left f.2.2 (Int.mul_nonneg (Int.mul_nonneg (by decide) (Int.le_of_lt b.w0)) (Int.le_of_lt b.h0))
  have h2 : 4 * (w * W) * (h * H) ≤ (w * W + h * H) * (w * W + h * H) := by
    have e : (w * W + h * H) * (w * W + h * H) = 4 * (w * W) * (h * H) + (w * W - h * H) * (w * W - h * H) := by grind
    have : 0 ≤ (w * W - h * H) * (w * W - h * H) := by
      rcases Int.le_total 0 (w * W - h * H) with z | z
      · exact Int.mul_nonneg z z
      · exact Int.mul_nonneg_of_nonpos_of_nonpos z z
    omega
  refine Int.lt_of_not_ge fun z => ?_
  have : (w * W + h * H) * (w * W + h * H) ≤ r * r := Int.mul_le_mul z z (by omega) hr0
  omega
/-- the two widths that are looked at, of a cost -/
def pkF (a u w h C : Int) : Int := min (max (C.fdiv (2 * w)) a) ((C - h * u).fdiv w)
def blF (a u w h C s : Int) : Int := pkF a u w h C - (pkF a u w h C - s).fmod h
theorem fdiv_bd {n d : Int} (hd : 0 < d) : d * n.fdiv d ≤ n ∧ n < d * n.fdiv d + d := by
  have h1 := Int.fmod_add_mul_fdiv n d
  have h2 := Int.fmod_nonneg_of_pos n hd
  have h3 := Int.fmod_lt_of_pos n hd
  generalize d * n.fdiv d = q at h1 ⊢
  omega
theorem bl_mod {a u w h C s : Int} (hh : 0 < h) : h ∣ blF a u w h C s - s ∧ blF a u w h C s ≤ pkF a u w h C ∧ pkF a u w h C < blF a u w h C s + h := by
  unfold blF
  generalize pkF a u w h C = p
  have h1 := Int.fmod_add_mul_fdiv (p - s) h
  have h2 := Int.fmod_nonneg_of_pos (p - s) hh
  have h3 := Int.fmod_lt_of_pos (p - s) hh
  refine ⟨⟨(p - s).fdiv h, ?_⟩, by omega, by omega⟩
  omega
def GoodW (a u P w h C W : Int) : Prop := a ≤ W ∧ u ≤ (C - w * W).fdiv h ∧ P ≤ W * (C - w * W).fdiv h
theorem hh_of {w h C W s t : Int} (hh : 0 < h) (hb : w * s = C + h * t) (hm : h ∣ W - s) : ∃ H, C - w * W = h * H ∧ (C - w * W).fdiv h = H := by
  obtain ⟨k, hk⟩ := hm
  have e : C - w * W = h * (-t - w * k) := by
    have : W = s + h * k := by omega
    rw [this]; grind
  refine ⟨-t - w * k, e, ?_⟩
  rw [e, Int.mul_comm]
  exact Int.mul_fdiv_cancel _ (by omega)
theorem good_fr {a u P w h C W s t : Int} (hh : 0 < h) (hb : w * s = C + h * t) (hm : h ∣ W - s) (g : GoodW a u P w h C W) : Fr a u P W ((C - w * W).fdiv h) ∧ w * W + h * (C - w * W).fdiv h = C := by
  obtain ⟨H, e1, e2⟩ := hh_of hh hb hm
  refine ⟨g, ?_⟩
  rw [e2, ← e1]; omega
/-- where a frame has the cost, one of the two widths is good -/
theorem good_of {a u P w h C s t x y W H : Int} (b : Bg a u P w h) (hb : w * s = C + h * t) (hxy : w * x + h * y = 1) (f : Fr a u P W H) (hC : w * W + h * H = C) : GoodW a u P w h C (blF a u w h C s) ∨ GoodW a u P w h C (blF a u w h C s + h) := by
  obtain ⟨W0, H0⟩ := f.pos b
  have hh := b.h0
  have hw := b.w0
  obtain ⟨m1, m2, m3⟩ := bl_mod (a := a) (u := u) (w := w) (C := C) (s := s) hh
  have dv : h ∣ W - s := by
    refine ⟨(W - s) * y - x * (H + t), ?_⟩
    have e : w * (W - s) = -(h * (H + t)) := by grind
    have e2 : W - s = (w * x + h * y) * (W - s) := by rw [hxy, Int.one_mul]
    calc W - s = (w * x + h * y) * (W - s) := e2
      _ = x * (w * (W - s)) + h * y * (W - s) := by grind
      _ = x * (-(h * (H + t))) + h * y * (W - s) := by rw [e]
      _ = h * ((W - s) * y - x * (H + t)) := by grind
  generalize hB : blF a u w h C s = Bl at m1 m2 m3 ⊢
  obtain ⟨j, hj⟩ := dv
  obtain ⟨i, hi⟩ := m1
  have hWB : W - Bl = h * (j - i) := by grind
  have q1 := fdiv_bd (n := C) (d := 2 * w) (by omega)
  have q2 := fdiv_bd (n := C - h * u) (d := w) hw
  have hu : w * W ≤ C - h * u := by
    have := Int.mul_le_mul_of_nonneg_left f.2.1 (Int.le_of_lt hh)
    omega
  have hWle : W ≤ (C - h * u).fdiv w := by
    have : w * W < w * ((C - h * u).fdiv w + 1) := by
      have e : w * ((C - h * u).fdiv w + 1) = w * (C - h * u).fdiv w + w := by grind
      rw [e]; omega
    have := Int.lt_of_mul_lt_mul_left this (by omega)
    omega
  have prod : ∀ V K : Int, w * V + h * K = C → 0 ≤ (V - W) * (C - w * (V + W)) → P ≤ V * K := fun V K hV hz => by
    have e : h * (V * K) - h * (W * H) = (V - W) * (C - w * (V + W)) := by
      have e1 : h * K = C - w * V := by omega
      have e2 : h * H = C - w * W := by omega
      have e3 : h * (V * K) = V * (C - w * V) := by rw [← e1]; grind
      have e4 : h * (W * H) = W * (C - w * W) := by rw [← e2]; grind
      rw [e3, e4]; grind
    have : h * (W * H) ≤ h * (V * K) := by omega
    have := Int.le_of_mul_le_mul_left this hh
    have := f.2.2
    omega
  have hgt : ∀ V : Int, h ∣ V - s → ∃ K, w * V + h * K = C ∧ (C - w * V).fdiv h = K := fun V hV => by
    obtain ⟨K, e1, e2⟩ := hh_of hh hb hV
    exact ⟨K, by omega, e2⟩
  have hup : ∀ V K : Int, w * V + h * K = C → w * V ≤ C - h * u → u ≤ K := fun V K hV hl => by
    have : h * u ≤ h * K := by omega
    exact Int.le_of_mul_le_mul_left this hh
  by_cases c : j - i ≤ 0
  · -- the width is not above the lower one
    left
    have hl : W ≤ Bl := by
      have := Int.mul_le_mul_of_nonneg_left c (Int.le_of_lt hh)
      rw [Int.mul_zero] at this
      omega
    obtain ⟨K, k1, k2⟩ := hgt Bl ⟨i, hi⟩
    unfold GoodW
    rw [k2]
    have hpk : Bl ≤ (C - h * u).fdiv w := by unfold pkF at m2; omega
    have hBl : w * Bl ≤ C - h * u := by
      have := Int.mul_le_mul_of_nonneg_left hpk (Int.le_of_lt hw)
      omega
    refine ⟨by have := f.1; omega, hup Bl K k1 hBl, prod Bl K k1 ?_⟩
    by_cases z : W = Bl
    · rw [z, Int.sub_self, Int.zero_mul]; exact Int.le_refl _
    · refine Int.mul_nonneg (by omega) ?_
      have : Bl ≤ C.fdiv (2 * w) := by
        unfold pkF at m2
        have := f.1
        omega
      have h1 := Int.mul_le_mul_of_nonneg_left this (show 0 ≤ 2 * w by omega)
      have h2 := Int.mul_le_mul_of_nonneg_left hl (Int.le_of_lt hw)
      have e : w * (Bl + W) = w * Bl + w * W := by grind
      have e2 : 2 * w * Bl = w * Bl + w * Bl := by grind
      rw [e]
      omega
  · right
    have hl : Bl + h ≤ W := by
      have := Int.mul_le_mul_of_nonneg_left (show 1 ≤ j - i by omega) (Int.le_of_lt hh)
      rw [Int.mul_one] at this
      omega
    obtain ⟨K, k1, k2⟩ := hgt (Bl + h) ⟨i + 1, by rw [Int.mul_add]; omega⟩
    unfold GoodW
    rw [k2]
    have hpk : pkF a u w h C = max (C.fdiv (2 * w)) a := by unfold pkF at m3 ⊢; omega
    have hV : w * (Bl + h) ≤ C - h * u := by
      have := Int.mul_le_mul_of_nonneg_left hl (Int.le_of_lt hw)
      omega
    refine ⟨by omega, hup (Bl + h) K k1 hV, prod (Bl + h) K k1 ?_⟩
    refine Int.mul_nonneg_of_nonpos_of_nonpos (by omega) ?_
    have h1 : C.fdiv (2 * w) + 1 ≤ Bl + h := by omega
    have h3 := Int.mul_le_mul_of_nonneg_left h1 (Int.le_of_lt hw)
    have h4 := Int.mul_le_mul_of_nonneg_left (Int.le_trans h1 hl) (Int.le_of_lt hw)
    have e : w * (Bl + h + W) = w * (Bl + h) + w * W := by grind
    have e2 : 2 * w * C.fdiv (2 * w) + 2 * w = w * (C.fdiv (2 * w) + 1) + w * (C.fdiv (2 * w) + 1) := by grind
    rw [e]
    omega
end AW

set_option linter.all false
set_option maxRecDepth 100000
set_option maxHeartbeats 8000000
namespace AW
open PySem PySem.Spec PyProof.Rows L2 Fewest
variable [Tbs]
section
variable {P : Program} {w : World} {K : PySem.W.Frag} {mg : Str → Option Value} {base : Heap}
abbrev trD (l : Bz.Tr) : D := t3 l.a l.b l.r
theorem wi_bd {k : Nat} {f s : Int} {l h : Bz.Tr} (I : Bz.WI f s l h) (hf : Bd k f) (hs : Bd k s) : Bd (k + 2) l.a ∧ Bd (k + 2) l.b ∧ Bd (k + 2) l.r ∧ Bd (k + 2) h.a ∧ Bd (k + 2) h.b ∧ Bd (k + 2) h.r := by
  have b := I.bd
  unfold Bd at *
  have e : (2 : Nat) ^ (k + 2) = 4 * 2 ^ k := by rw [Nat.pow_add] <;> omega
  rw [e]
  generalize (2 : Nat) ^ k = N at *
  omega
theorem lg8 {b : Int} (h : Bd 8002 b) : b.natAbs.log2 < 9000 := by have := PySem.W.mg_log (k := 8002) (Nat.lt_trans h (Nat.pow_lt_pow_right (by decide) (by decide))); omega
def subD (t : Int) : D → D → D
  | .int a, .int b => .int (a - t * b)
  | _, _ => .non
def pr_bezout (T : Tx K mg) : Pr := fun ds B k e => ∃ f s : Int, ds = [.int f, .int s] ∧ Bd 8000 f ∧ Bd 8000 s ∧ ∀ a b : Int, a * f + b * s = (Nat.gcd f.natAbs s.natAbs : Int) → (∀ m, Bd m f → Bd m s → Bd (m + 2) a ∧ Bd (m + 2) b) → k (t2 a b) B
theorem okD_bezout (T : Tx K mg) : FnOk P w K mg base (L2.CX P w) 1 T.a_bezout T.d_bezout P_bezout (spD K (pr_bezout T)) := by
  refine T.F_bezout.okX sc_bezout (spD_len fun ds B k e h => by obtain ⟨f, s1, rfl, hf, hs1, hk⟩ := h; rfl) (fun cdv A outer s H vs Q E hr h => ?_)
  obtain ⟨G, ds, B, k, e, hs, hR, ⟨f, s1, rfl, hf, hs1, hk⟩, hK, hX⟩ := h
  refine ⟨_, (pss_cons (ps_par (i := 2) (j := 3) (by rfl) sc_bezout.nd rfl rfl (by decide) rfl rfl (pa_cons (pe_tup (pa_cons pe_int (pa_cons pe_int (pa_cons (pv 0) pa_nil)))) (pa_cons (pe_tup (pa_cons pe_int (pa_cons pe_int (pa_cons (pv 1) pa_nil)))) pa_nil)) (by rfl))
 (pss_cons (ps_while (passes_of rfl) (pt_cmpR op_ne (pe_ix ix_tup (pv 3) pe_int (fun _ _ => rfl)) pe_int (nomark _))
 (pss_cons (ps_set (i := 4) sc_bezout.nd rfl (.inr rfl) (pe_op op_fdivG (pe_ix ix_tup (pv 2) pe_int (fun _ _ => rfl)) (pe_ix ix_tup (pv 3) pe_int (fun _ _ => rfl))))
 (pss_one (ps_par (i := 2) (j := 3) (by rfl) sc_bezout.nd rfl rfl (by decide) rfl rfl (pa_cons (pv 3) (pa_cons (pe_callTy call_tuple_of (by rfl) T.n_tuple (by decide +kernel) (pa_cons (pe_lc (own := [("one", 5), ("other", 6)]) (g := gTup K 2 (gCons (gName 5) (gCons (gName 6) gNil))) (by rfl) sc_bezout.nd (RZ.pi_zipA (by rfl) T.n_zip (pa_cons (pv 2) (pa_cons (pv 3) pa_nil))) (blkOk_by (own := [("one", 5), ("other", 6)]) (N := N_bezout) (sc := defScope s_bezout) (by decide +kernel)) (fun _ _ _ _ _ => pg_tup rfl (pgs_cons (pg_name (i := 5) sc_bezout.nd rfl (Or.inl rfl)) (pgs_cons (pg_name (i := 6) sc_bezout.nd rfl (Or.inl rfl)) pgs_nil))) (fun _ _ _ _ _ => pts_nil) (fun _ _ _ _ _ => (pe_op op_sub (pv 5) (pe_op op_mulW (pv 4) (pv 6))))) pa_nil)) pa_nil)) (by rfl)))))
 (pss_cons (ps_if (pt_cmpR op_lt (pe_ix ix_tup (pv 2) pe_int (fun _ _ => rfl)) pe_int (nomark _))
 (pss_one (ps_ret (pe_tup (pa_cons (pe_un un_neg (pe_ix ix_tup (pv 2) pe_int (fun _ _ => rfl))) (pa_cons (pe_un un_neg (pe_ix ix_tup (pv 2) pe_int (fun _ _ => rfl))) pa_nil)))))
 pss_nil)
 (pss_one (ps_ret (pe_tup (pa_cons (pe_ix ix_tup (pv 2) pe_int (fun _ _ => rfl)) (pa_cons (pe_ix ix_tup (pv 2) pe_int (fun _ _ => rfl)) pa_nil)))))))), run_body (ρ := [some (.int f), some (.int s1), none, none, none, none, none]) hs hR hK hX rfl ?_⟩
  refine ws_seq (ws_par (wa_cons (we_tup (wa_cons (we_int (wa_cons (we_int (wa_cons (we_var rfl (wa_nil ⟨Nat.le_of_ble_eq_true rfl, (wa_cons (we_tup (wa_cons (we_int (wa_cons (we_int (wa_cons (we_var rfl (wa_nil ⟨Nat.le_of_ble_eq_true rfl, (wa_nil ⟨_, _, rfl, ?_⟩)⟩)))))))))⟩))))))))))
  refine ws_cut (fun ρ' B' => (∃ l h o1, ρ' = [some (.int f), some (.int s1), some (trD l), some (trD h), o1, none, none] ∧ Bz.WI f s1 l h ∧ h.r = 0) ∧ B = B') ?_ ?_
  · refine ws_while (fun n ρ' B' => (∃ l h o1, ρ' = [some (.int f), some (.int s1), some (trD l), some (trD h), o1, none, none] ∧ Bz.WI f s1 l h ∧ h.r.natAbs = n) ∧ B = B') s1.natAbs ⟨⟨⟨1, 0, f⟩, ⟨0, 1, s1⟩, none, rfl, .inl ⟨rfl, rfl⟩, rfl⟩, rfl⟩ ?_
    rintro n ρ' B' ⟨⟨l, h, o1, rfl, I, hn⟩, rfl⟩
    obtain ⟨bla, blb, blr, bha, bhb, bhr⟩ := wi_bd I hf hs1
    refine wt_test (we_op (we_op (we_var rfl (we_int (ro_ixT rfl (we_int (ro_neI ⟨_, rfl, fun h1 => ?_, fun h1 => ?_⟩)))))))
    · have nz := ne_of_dec h1
      have bt : Bd 8002 (l.r.fdiv h.r) := blr.fdiv
      refine ws_seq (ws_set (we_op (we_op (we_var rfl (we_int (ro_ixT rfl (we_op (we_var rfl (we_int (ro_ixT rfl (ro_i ⟨nz, lg8 (bhr.mono (by decide))⟩ ?_)))))))))))
      refine ws_par <| wa_cons <| we_var rfl <| wa_cons <| we_tupleL <| wa_cons <| we_lc_zipT (E1 := E0) (by decide) <| wa_cons <| we_var rfl <| wa_cons <| we_var rfl <| wa_nil ⟨_, _, rfl, rfl, (by show 3 < sizeLine; decide), subD (l.r.fdiv h.r), fun n x y hx hy k' hk' => ?_, wa_nil ⟨_, rfl, wa_nil ⟨_, _, rfl, ?_⟩⟩⟩
      · rcases n with _ | _ | _ | n
        · cases hx; cases hy
          exact we_op (we_var rfl (we_op (we_var rfl (we_var rfl (ro_i (cmc (by apply Bd.mono; (repeat (first | assumption | exact Bd.lit 64 (by decide +kernel) | exact Bd.lit 2000 (by decide +kernel) | apply Bd.neg | apply Bd.fdiv | apply Bd.mul | apply Bd.add2 | apply Bd.sub2)); decide) (by apply Bd.mono; (repeat (first | assumption | exact Bd.lit 64 (by decide +kernel) | exact Bd.lit 2000 (by decide +kernel) | apply Bd.neg | apply Bd.fdiv | apply Bd.mul | apply Bd.add2 | apply Bd.sub2)); decide)) (ro_i0 hk'))))))
        · cases hx; cases hy
          exact we_op (we_var rfl (we_op (we_var rfl (we_var rfl (ro_i (cmc (by apply Bd.mono; (repeat (first | assumption | exact Bd.lit 64 (by decide +kernel) | exact Bd.lit 2000 (by decide +kernel) | apply Bd.neg | apply Bd.fdiv | apply Bd.mul | apply Bd.add2 | apply Bd.sub2)); decide) (by apply Bd.mono; (repeat (first | assumption | exact Bd.lit 64 (by decide +kernel) | exact Bd.lit 2000 (by decide +kernel) | apply Bd.neg | apply Bd.fdiv | apply Bd.mul | apply Bd.add2 | apply Bd.sub2)); decide)) (ro_i0 hk'))))))
        · cases hx; cases hy
          exact we_op (we_var rfl (we_op (we_var rfl (we_var rfl (ro_i (cmc (by apply Bd.mono; (repeat (first | assumption | exact Bd.lit 64 (by decide +kernel) | exact Bd.lit 2000 (by decide +kernel) | apply Bd.neg | apply Bd.fdiv | apply Bd.mul | apply Bd.add2 | apply Bd.sub2)); decide) (by apply Bd.mono; (repeat (first | assumption | exact Bd.lit 64 (by decide +kernel) | exact Bd.lit 2000 (by decide +kernel) | apply Bd.neg | apply Bd.fdiv | apply Bd.mul | apply Bd.add2 | apply Bd.sub2)); decide)) (ro_i0 hk'))))))
        · cases hx
      · have I2 := I.step nz
        exact ⟨_, by rw [← hn]; exact I2.lt, ⟨h, Bz.stp l h, _, rfl, .inr I2, rfl⟩, rfl⟩
    · exact ⟨⟨l, h, o1, rfl, I, eq_of_dec h1⟩, rfl⟩
  rintro _ _ ⟨⟨l, h, o1, rfl, I, hz⟩, rfl⟩
  obtain ⟨bla, blb, blr, bha, bhb, bhr⟩ := wi_bd I hf hs1
  obtain ⟨q1, q2⟩ := I.out hz
  refine ws_seq (ws_if (wt_test (we_op (we_op (we_var rfl (we_int (ro_ixT rfl (we_int (ro_b0 ⟨_, rfl, ⟨fun hc1 => ?_, fun hc2 => ?_⟩⟩)))))))))
  · refine (ws_ret (we_tup (wa_cons (we_neg (we_op (we_var rfl (we_int (ro_ixT rfl ⟨_, rfl, (wa_cons (we_neg (we_op (we_var rfl (we_int (ro_ixT rfl ⟨_, rfl, (wa_nil ⟨Nat.le_of_ble_eq_true rfl, ?_⟩)⟩))))))⟩))))))))
    exact hk _ _ (q1 (of_decide_eq_true hc1)) fun m u v => ⟨(wi_bd I u v).1.neg, (wi_bd I u v).2.1.neg⟩
  · refine ws_next ?_
    refine (ws_ret (we_tup (wa_cons (we_op (we_var rfl (we_int (ro_ixT rfl (wa_cons (we_op (we_var rfl (we_int (ro_ixT rfl (wa_nil ⟨Nat.le_of_ble_eq_true rfl, ?_⟩)))))))))))))
    exact hk _ _ (q2 (of_decide_eq_false hc2)) fun m u v => ⟨(wi_bd I u v).1, (wi_bd I u v).2.1⟩
def pr_quotient_up (T : Tx K mg) : Pr := fun ds B k e => ∃ a b : Int, ds = [.int a, .int b] ∧ 0 < b ∧ Bd 8000 b ∧ k (.int (cu a b)) B
theorem okD_quotient_up (T : Tx K mg) : FnOk P w K mg base (L2.CX P w) 1 T.a_quotient_up T.d_quotient_up P_quotient_up (spD K (pr_quotient_up T)) := by
  refine T.F_quotient_up.okX sc_quotient_up (spD_len fun ds B k e h => by obtain ⟨a, b, rfl, b0, hb, hk⟩ := h; rfl) (fun cdv A outer s H vs Q E hr h => ?_)
  obtain ⟨G, ds, B, k, e, hs, hR, ⟨a, b, rfl, b0, hb, hk⟩, hK, hX⟩ := h
  refine ⟨_, (pss_one (ps_ret (pe_un un_neg (pe_op op_fdivG (pe_un un_neg (pv 0)) (pv 1))))), run_body (ρ := [some (.int a), some (.int b)]) hs hR hK hX rfl ?_⟩
  exact ws_ret <| we_neg <| we_op <| we_neg <| we_var rfl ⟨_, rfl, we_var rfl <| ro_i ⟨by omega, lg hb⟩ ⟨_, rfl, hk⟩⟩
abbrev bgN : List Str := ["across", "up", "product", "wide", "high", "narrowest", "widest"]
abbrev bgF (a u p w h : Int) : List D := [.int a, .int u, .int p, .int w, .int h, .int (nar a), .int (wid a u p)]
abbrev bgD (T : Tx K mg) (a u p w h : Int) : D := .ins T.C_Bargain bgN (bgF a u p w h)
/-- the numbers' sizes -/
structure BgS (a u p w h : Int) : Prop where
  ba : Bd 300 a
  bu : Bd 300 u
  bp : Bd 300 p
  bw : Bd 20 w
  bh : Bd 20 h
theorem mx_max (a b : Int) : (if b > a then b else a) = max a b := by split <;> omega
theorem mn_min (a b : Int) : (if b < a then b else a) = min a b := by split <;> omega
def pr_Bargain_init (T : Tx K mg) : List D → Int → (List D → Int → Prop) → EW → Prop := fun ds B k e => ∃ a u p w h : Int, ds = [.int a, .int u, .int p, .int w, .int h] ∧ Bg a u p w h ∧ BgS a u p w h ∧ ∀ w' h' g : Int, 0 < g → w = g * w' → h = g * h' → Nat.gcd w'.natAbs h'.natAbs = 1 → Bg a u p w' h' → BgS a u p w' h' → k (bgF a u p w' h') B
theorem gcd_parts {w h : Int} (w0 : 0 < w) (h0 : 0 < h) : ∃ g w' h' : Int, (Nat.gcd w.natAbs h.natAbs : Int) = g ∧ 0 < g ∧ w.fdiv g = w' ∧ h.fdiv g = h' ∧ w = g * w' ∧ h = g * h' ∧ Nat.gcd w'.natAbs h'.natAbs = 1 ∧ 0 < w' ∧ 0 < h' ∧ w' ≤ w ∧ h' ≤ h ∧ g ≤ w := by
  obtain ⟨m, rfl⟩ : ∃ m : Nat, w = m := ⟨w.toNat, by omega⟩
  obtain ⟨n, rfl⟩ : ∃ n : Nat, h = n := ⟨h.toNat, by omega⟩
  rw [Int.natAbs_natCast, Int.natAbs_natCast]
  have g0 : 0 < Nat.gcd m n := Nat.gcd_pos_of_pos_left _ (by omega)
  have dm : Nat.gcd m n ∣ m := Nat.gcd_dvd_left ..
  have dn : Nat.gcd m n ∣ n := Nat.gcd_dvd_right ..
  have em := Nat.mul_div_cancel' dm
  have en := Nat.mul_div_cancel' dn
  have pm : 0 < m / Nat.gcd m n := Nat.div_pos (Nat.le_of_dvd (by omega) dm) g0
  have pn : 0 < n / Nat.gcd m n := Nat.div_pos (Nat.le_of_dvd (by omega) dn) g0
  refine ⟨(Nat.gcd m n : Nat), ((m / Nat.gcd m n : Nat) : Int), ((n / Nat.gcd m n : Nat) : Int), rfl, by omega, ?_, ?_, ?_, ?_, ?_, by omega, by omega, ?_, ?_, ?_⟩
  · rw [Int.fdiv_eq_ediv_of_nonneg _ (by omega)]; first | (push_cast; rfl) | push_cast
  · rw [Int.fdiv_eq_ediv_of_nonneg _ (by omega)]; first | (push_cast; rfl) | push_cast
  · rw [← Int.natCast_mul, em]
  · rw [← Int.natCast_mul, en]
  · rw [Int.natAbs_natCast, Int.natAbs_natCast, Nat.gcd_div dm dn, Nat.div_self g0]
  · have := Nat.div_le_self m (Nat.gcd m n); omega
  · have := Nat.div_le_self n (Nat.gcd m n); omega
  · have := Nat.le_of_dvd (by omega) dm; omega
theorem okD_Bargain_init (T : Tx K mg) : FnOk P w K mg base (L2.CX P w) 3 T.a_Bargain_init T.d_Bargain_init P_Bargain_init (spI K T.C_Bargain bgN (pr_Bargain_init T)) := by
  have G_quotient_up : FnOk P w K mg base (L2.CX P w) 1 _ _ _ _ := okD_quotient_up T
  refine T.F_Bargain_init.okX sc_Bargain_init (fun vs H Q E h => ?_) (fun cdv A outer s H vs Q E hr h => ?_)
  · obtain ⟨p, dx, ws, G, ds, B, k, e, rfl, hp, gp, gdx, ne, hd, hs, hR, ⟨a, u, p1, w1, h1, rfl, _⟩, hK, hX⟩ := h
    rw [List.length_cons, ← hR.length]
    rfl
  · obtain ⟨p, dx, ws, G, ds, B, k, e, rfl, hp, gp, gdx, ne, hd, hs, hR, ⟨a, u, p1, w1, h1, rfl, hb, hz, hk⟩, hK, hX⟩ := h
    have n1 : ∀ q ∈ ([("across" : Str)] : List Str), q ≠ ("up" : Str) := by decide +kernel
    have n2 : ∀ q ∈ ([("across" : Str), "up"] : List Str), q ≠ ("product" : Str) := by decide +kernel
    have n3 : ∀ q ∈ ([("across" : Str), "up", "product"] : List Str), q ≠ ("wide" : Str) := by decide +kernel
    have n4 : ∀ q ∈ ([("across" : Str), "up", "product", "wide"] : List Str), q ≠ ("high" : Str) := by decide +kernel
    have n5 : ∀ q ∈ ([("across" : Str), "up", "product", "wide", "high"] : List Str), q ≠ ("narrowest" : Str) := by decide +kernel
    have n6 : ∀ q ∈ ([("across" : Str), "up", "product", "wide", "high", "narrowest"] : List Str), q ≠ ("widest" : Str) := by decide +kernel
    obtain ⟨g, w2, h2, eg, g0, ew, eh, fw, fh, hg1, w20, h20, lw, lh, lgw⟩ := gcd_parts hb.w0 hb.h0
    have bg : Bd 20 g := by have := hz.bw; unfold Bd at *; omega
    have b2 : Bg a u p1 w2 h2 := ⟨hb.a0, hb.u0, hb.hp, w20, h20⟩
    have z2 : BgS a u p1 w2 h2 := ⟨hz.ba, hz.bu, hz.bp, by have := hz.bw; unfold Bd at *; omega, by have := hz.bh; unfold Bd at *; omega⟩
    have bmu : Bd 8000 (max u 1) := by
      have := hz.bu
      have h300 : (2 : Nat) ^ 300 ≤ 2 ^ 8000 := Nat.pow_le_pow_right (by decide) (by decide)
      have h1 : (1 : Nat) < 2 ^ 8000 := Nat.one_lt_two_pow (by decide)
      unfold Bd at *; omega
    refine ⟨_, (pss_cons (ps_set (i := 6) sc_Bargain_init.nd rfl (.inl rfl) (pe_callBfun cr_gcd (by rfl) T.mi_gcd (pa_cons (pv 4) (pa_cons (pv 5) pa_nil))))
 (pss_cons (ps_fld (pv 0) (pv 1) rfl)
 (pss_cons (ps_fld (pv 0) (pv 2) rfl)
 (pss_cons (ps_fld (pv 0) (pv 3) rfl)
 (pss_cons (ps_fld (pv 0) (pe_op op_fdivG (pv 4) (pv 6)) rfl)
 (pss_cons (ps_fld (pv 0) (pe_op op_fdivG (pv 5) (pv 6)) rfl)
 (pss_cons (ps_fld (pv 0) (pe_callB (call_max2 rfl) (by rfl) T.n_max (by decide +kernel) (pa_cons (pv 1) (pa_cons pe_int pa_nil))) rfl)
 (pss_one (ps_fld (pv 0) (pe_callB (call_max2 rfl) (by rfl) T.n_max (by decide +kernel) (pa_cons (pe_fld (pv 0) rfl) (pa_cons (pe_call G_quotient_up (hr.mono (by decide)) (by rfl) T.g_quotient_up T.F_quotient_up.kp T.b_quotient_up .nil passL (pa_cons (pv 3) (pa_cons (pe_callB (call_max2 rfl) (by rfl) T.n_max (by decide +kernel) (pa_cons (pv 2) (pa_cons pe_int pa_nil))) pa_nil))) pa_nil))) rfl))))))))), run_init (kf := fun fs O' B' => fs.map (·.1) = bgN ∧ k (fs.map (·.2)) B') hp gp hs hR rfl (fun fs us O' B' G' H' hf ex g2 h2 hr2 ow2 hpn => ?_) ?_⟩
    · obtain ⟨e1, hf⟩ := hf
      rw [e1] at h2
      refine hK _ us B' G' H' hf ex.le ex.sub (fun a o z n nb nt => ex.fr a o (by rw [hide1 nb]; exact z) n nt) g2 h2 ?_ hr2
      have h3 := hr2.length
      have h4 := congrArg List.length e1
      rw [List.length_map] at h3 h4
      show 7 = _
      exact h4.symm.trans h3
    · refine wx_seq <| wx_ws <| ws_set <| we_gcd <| wa_cons <| we_var rfl <| wa_cons <| we_var rfl <| wa_nil ⟨_, _, rfl, ?_⟩
      rw [eg]
      refine wx_seq <| wx_fldS (i := 0) (C := T.C_Bargain) (dx := dx) rfl <| wew_we <| we_var rfl ⟨0, [], rfl, T.cl_Bargain, T.na_Bargain_across, by decide, (fun q hq => nomatch hq), ?_⟩
      refine wx_seq <| wx_fldS (i := 0) (C := T.C_Bargain) (dx := dx) rfl <| wew_we <| we_var rfl ⟨0, _, rfl, T.cl_Bargain, T.na_Bargain_up, by simp, n1, ?_⟩
      refine wx_seq <| wx_fldS (i := 0) (C := T.C_Bargain) (dx := dx) rfl <| wew_we <| we_var rfl ⟨0, _, rfl, T.cl_Bargain, T.na_Bargain_product, by simp, n2, ?_⟩
      refine wx_seq <| wx_fldS (i := 0) (C := T.C_Bargain) (dx := dx) rfl <| wew_we <| we_op <| we_var rfl <| we_var rfl <| ro_i ⟨by omega, lg (bg.mono (by decide))⟩ ⟨0, _, rfl, T.cl_Bargain, T.na_Bargain_wide, by simp, n3, ?_⟩
      refine wx_seq <| wx_fldS (i := 0) (C := T.C_Bargain) (dx := dx) rfl <| wew_we <| we_op <| we_var rfl <| we_var rfl <| ro_i ⟨by omega, lg (bg.mono (by decide))⟩ ⟨0, _, rfl, T.cl_Bargain, T.na_Bargain_high, by simp, n4, ?_⟩
      rw [ew, eh]
      refine wx_seq <| wx_fldS (i := 0) (C := T.C_Bargain) (dx := dx) rfl <| wew_we <| we_max2 <| wa_cons <| we_var rfl <| wa_cons <| we_int <| wa_nil ⟨_, _, rfl, 0, _, rfl, T.cl_Bargain, T.na_Bargain_narrowest, by simp, n5, ?_⟩
      rw [mx_max]
      refine wx_fldS (i := 0) (C := T.C_Bargain) (dx := dx) rfl <| wew_max2 <| waw_cons <| wew_fldS (i := 0) (n := 0) rfl rfl T.cl_Bargain T.na_Bargain_narrowest rfl <| waw_cons <| wew_we <| we_call <| wa_cons <| we_var rfl <| wa_cons <| we_max2 <| wa_cons <| we_var rfl <| wa_cons <| we_int <| wa_nil ⟨_, _, rfl, wa_nil ⟨_, _, rfl, by split <;> omega, by rw [mx_max]; exact bmu, waw_nil ⟨_, _, rfl, 0, _, rfl, T.cl_Bargain, T.na_Bargain_widest, by simp, n6, 0, _, rfl, rfl, ?_⟩⟩⟩
      rw [mx_max, mx_max]
      exact hk w2 h2 g g0 fw fh hg1 b2 z2
end
end AW

set_option linter.all false
set_option maxRecDepth 100000
set_option maxHeartbeats 8000000
namespace AW
open PySem PySem.Spec PyProof.Rows L2 Fewest
variable [Tbs]
section
variable {P : Program} {w : World} {K : PySem.W.Frag} {mg : Str → Option Value} {base : Heap}
theorem BgS.bn {a u p w h : Int} (z : BgS a u p w h) : Bd 300 (nar a) := by
  have h1 : (1 : Nat) < 2 ^ 300 := Nat.one_lt_two_pow (by decide)
  have := z.ba
  unfold nar; unfold Bd at *; omega
theorem wid_le {a u p w h : Int} (b : Bg a u p w h) : wid a u p ≤ max (nar a) p := by
  have p0 := b.p0
  unfold wid
  have : cu p (max u 1) ≤ p := by
    refine cu_le (by omega) ?_
    have := Int.mul_le_mul_of_nonneg_right (show 1 ≤ max u 1 by omega) (show 0 ≤ p by omega)
    omega
  omega
theorem BgS.bw2 {a u p w h W : Int} (b : Bg a u p w h) (z : BgS a u p w h) (h1 : 0 ≤ W) (h2 : W ≤ wid a u p) : Bd 300 W := by
  have := wid_le b
  have n := z.bn
  have p := z.bp
  unfold Bd at *
  omega
theorem BgS.bh2 {a u p w h W : Int} (b : Bg a u p w h) (z : BgS a u p w h) (h1 : 0 < W) : Bd 300 (hgt u p W) ∧ Bd 300 (cu p W) := by
  have c1 : cu p W ≤ p := by
    refine cu_le h1 ?_
    have := Int.mul_le_mul_of_nonneg_right (show 1 ≤ W by omega) (show 0 ≤ p by have := b.p0; omega)
    omega
  have c2 : 0 ≤ cu p W := by
    have := (cu_ge (n := p) h1).1
    have p0 := b.p0
    refine Int.le_of_not_gt fun q => ?_
    have : W * cu p W ≤ 0 := Int.mul_nonpos_of_nonneg_of_nonpos (by omega) (by omega)
    omega
  have u0 := b.u0
  have := z.bp
  have := z.bu
  unfold hgt
  unfold Bd at *
  omega
/-- the best of the widths from lo to hi -/
structure SeenW (a u p w h lo hi c W H : Int) : Prop where
  fr : Fr a u p W H
  co : c = w * W + h * H
  le : ∀ W', lo ≤ W' → W' ≤ hi → c ≤ cst u p w h W'
  bd : Bd 700 c
def BestW (a u p w h lo hi : Int) (d : D) : Prop := (hi < lo ∧ d = .non) ∨ (lo ≤ hi ∧ ∃ c W H, d = t3 c W H ∧ SeenW a u p w h lo hi c W H)
theorem lexB {a b c x y z : Int} (h : HT.lexLt [a, b, c] [x, y, z] = false) : x ≤ a := by
  simp [HT.lexLt] at h; split at h <;> omega
theorem seen_one {a u p w h V : Int} (b : Bg a u p w h) (z : BgS a u p w h) (h1 : nar a ≤ V) (h2 : V ≤ wid a u p) : SeenW a u p w h V V (w * V + h * hgt u p V) V (hgt u p V) := by
  have v0 : 0 < V := by unfold nar at h1; omega
  have va : a ≤ V := by unfold nar at h1; omega
  refine ⟨hgt_fr va v0, rfl, fun W' g1 g2 => ?_, ?_⟩
  · rw [show W' = V by omega]; exact Int.le_refl _
  · exact Bd.mono (((z.bw.mul (z.bw2 b (by omega) h2))).add2 (z.bh.mul (z.bh2 b v0).1)) (by decide)
theorem SeenW.of {a u p w h lo hi lo2 hi2 c W H : Int} (s : SeenW a u p w h lo hi c W H) (hl : ∀ W', lo2 ≤ W' → W' ≤ hi2 → ¬ (lo ≤ W' ∧ W' ≤ hi) → c ≤ cst u p w h W') : SeenW a u p w h lo2 hi2 c W H :=
  ⟨s.fr, s.co, fun W' g1 g2 => if x : lo ≤ W' ∧ W' ≤ hi then s.le W' x.1 x.2 else hl W' g1 g2 x, s.bd⟩
def pr_Bargain_may_be_cheaper (T : Tx K mg) : Pr := fun ds B k e => ∃ (a u p w h W : Int) (d : D), ds = [bgD T a u p w h, .int W, d] ∧ BgS a u p w h ∧ Bd 300 W ∧ ((d = .non ∧ k (.bl true) B) ∨ ∃ c x y : Int, d = t3 c x y ∧ Bd 700 c ∧ k (.bl (decide (w * W * W + h * p < c * W))) B)
theorem okD_Bargain_may_be_cheaper (T : Tx K mg) : FnOk P w K mg base (L2.CX P w) 1 T.a_Bargain_may_be_cheaper T.d_Bargain_may_be_cheaper P_Bargain_may_be_cheaper (spD K (pr_Bargain_may_be_cheaper T)) := by
  refine T.F_Bargain_may_be_cheaper.okX sc_Bargain_may_be_cheaper (spD_len fun ds B k e h => by obtain ⟨a, u, p, w1, h1, W, d, rfl, z, hW, hk⟩ := h; rfl) (fun cdv A outer s H vs Q E hr h => ?_)
  obtain ⟨G, ds, B, k, e, hs, hR, ⟨a, u, p, w1, h1, W, d, rfl, z, hW, hk⟩, hK, hX⟩ := h
  refine ⟨_, (pss_one (ps_ret (pe_or (pe_cmp (pc_isN (pv 2)) rfl) (pe_one (pe_cmpR op_lt (pe_op op_add (pe_op op_mulW (pe_op op_mulW (pe_fld (pv 0) rfl) (pv 1)) (pv 1)) (pe_op op_mulW (pe_fld (pv 0) rfl) (pe_fld (pv 0) rfl))) (pe_op op_mulW (pe_ix ix_tup (pv 2) pe_int (fun _ _ => rfl)) (pv 1)) (nomark _)))))), run_body (ρ := [some (bgD T a u p w1 h1), some (.int W), some d]) hs hR hK hX rfl ?_⟩
  rcases hk with ⟨rfl, hk⟩ | ⟨c, x, y, rfl, hc, hk⟩
  · exact ws_ret <| we_or <| we_isN <| we_var rfl ⟨_, rfl, (fun _ => hk), (fun h => nomatch h)⟩
  · have bw := z.bw
    have bh := z.bh
    have bp := z.bp
    refine (ws_ret (we_or (we_isN (we_var rfl ⟨_, rfl, fun hc1 => ?_, fun hc2 => (we_op (we_op (we_op (we_op (we_fld (we_var rfl ⟨_, _, _, _, rfl, T.cl_Bargain, T.na_Bargain_wide, rfl, (we_var rfl (ro_i (cmc (by apply Bd.mono; (repeat (first | assumption | exact Bd.lit 64 (by decide +kernel) | exact Bd.lit 2000 (by decide +kernel) | apply Bd.neg | apply Bd.fdiv | apply Bd.mul | apply Bd.add2 | apply Bd.sub2)); decide) (by apply Bd.mono; (repeat (first | assumption | exact Bd.lit 64 (by decide +kernel) | exact Bd.lit 2000 (by decide +kernel) | apply Bd.neg | apply Bd.fdiv | apply Bd.mul | apply Bd.add2 | apply Bd.sub2)); decide)) (we_var rfl (ro_i (cmc (by apply Bd.mono; (repeat (first | assumption | exact Bd.lit 64 (by decide +kernel) | exact Bd.lit 2000 (by decide +kernel) | apply Bd.neg | apply Bd.fdiv | apply Bd.mul | apply Bd.add2 | apply Bd.sub2)); decide) (by apply Bd.mono; (repeat (first | assumption | exact Bd.lit 64 (by decide +kernel) | exact Bd.lit 2000 (by decide +kernel) | apply Bd.neg | apply Bd.fdiv | apply Bd.mul | apply Bd.add2 | apply Bd.sub2)); decide)) (we_op (we_fld (we_var rfl ⟨_, _, _, _, rfl, T.cl_Bargain, T.na_Bargain_high, rfl, (we_fld (we_var rfl ⟨_, _, _, _, rfl, T.cl_Bargain, T.na_Bargain_product, rfl, (ro_i (cmc (by apply Bd.mono; (repeat (first | assumption | exact Bd.lit 64 (by decide +kernel) | exact Bd.lit 2000 (by decide +kernel) | apply Bd.neg | apply Bd.fdiv | apply Bd.mul | apply Bd.add2 | apply Bd.sub2)); decide) (by apply Bd.mono; (repeat (first | assumption | exact Bd.lit 64 (by decide +kernel) | exact Bd.lit 2000 (by decide +kernel) | apply Bd.neg | apply Bd.fdiv | apply Bd.mul | apply Bd.add2 | apply Bd.sub2)); decide)) (ro_i0 (we_op (we_op (we_var rfl (we_int (ro_ixT rfl (we_var rfl (ro_i (cmc (by apply Bd.mono; (repeat (first | assumption | exact Bd.lit 64 (by decide +kernel) | exact Bd.lit 2000 (by decide +kernel) | apply Bd.neg | apply Bd.fdiv | apply Bd.mul | apply Bd.add2 | apply Bd.sub2)); decide) (by apply Bd.mono; (repeat (first | assumption | exact Bd.lit 64 (by decide +kernel) | exact Bd.lit 2000 (by decide +kernel) | apply Bd.neg | apply Bd.fdiv | apply Bd.mul | apply Bd.add2 | apply Bd.sub2)); decide)) (ro_b0 ?_))))))))))⟩))⟩)))))))⟩))))))⟩))))
    · exact nomatch hc1
    · exact hk
theorem BestW.one {a u p w h lo hi lo2 hi2 V : Int} {d : D} (b : Bg a u p w h) (z : BgS a u p w h) (h1 : nar a ≤ V) (h2 : V ≤ wid a u p) (bs : BestW a u p w h lo hi d) (cv : ∀ x, lo2 ≤ x → x ≤ hi2 → (lo ≤ x ∧ x ≤ hi) ∨ x = V) (ne : lo2 ≤ hi2) :
    (d = .non → BestW a u p w h lo2 hi2 (t3 (w * V + h * hgt u p V) V (hgt u p V))) ∧ ∀ c x y, d = t3 c x y → (c ≤ w * V + h * hgt u p V → BestW a u p w h lo2 hi2 d) ∧ (w * V + h * hgt u p V ≤ c → BestW a u p w h lo2 hi2 (t3 (w * V + h * hgt u p V) V (hgt u p V))) := by
  have so := seen_one b z h1 h2
  refine ⟨fun e => ?_, fun c x y e => ⟨fun l => ?_, fun l => ?_⟩⟩
  · subst e
    refine .inr ⟨ne, _, _, _, rfl, so.of fun W' g1 g2 g3 => ?_⟩
    rcases bs with ⟨q, _⟩ | ⟨_, _, _, _, q, _⟩
    · rcases cv W' g1 g2 with x | x <;> omega
    · cases q
  · subst e
    rcases bs with ⟨_, q⟩ | ⟨_, c', x', y', q, s⟩
    · cases q
    · cases q
      refine .inr ⟨ne, _, _, _, rfl, s.of fun W' g1 g2 g3 => ?_⟩
      rcases cv W' g1 g2 with q | q
      · exact absurd q g3
      · subst q
        exact Int.le_trans l (so.le _ (Int.le_refl _) (Int.le_refl _))
  · subst e
    rcases bs with ⟨_, q⟩ | ⟨_, c', x', y', q, s⟩
    · cases q
    · cases q
      refine .inr ⟨ne, _, _, _, rfl, so.of fun W' g1 g2 g3 => ?_⟩
      rcases cv W' g1 g2 with q | q
      · exact Int.le_trans l (s.le _ q.1 q.2)
      · omega
def IW (a u p w h s : Int) (i : Nat) (d : D) : Prop := (i = 0 → d = .non) ∧ (i = 1 → BestW a u p w h s (wid a u p) d) ∧ (i = 2 → BestW a u p w h (nar a) (wid a u p) d)
/-- what a turn over the two directions is -/
structure TurnW (a u p w h : Int) (st : Int) (J : Int → D → Prop) (μ : Int → Nat) (Post : D → Prop) : Prop where
  bw : ∀ V d, J V d → ∃ lo hi, BestW a u p w h lo hi d
  st : ∀ V d d', J V d → nar a ≤ V → V ≤ wid a u p → (∀ lo hi lo2 hi2, BestW a u p w h lo hi d → (∀ x, lo2 ≤ x → x ≤ hi2 → (lo ≤ x ∧ x ≤ hi) ∨ x = V) → lo2 ≤ hi2 → BestW a u p w h lo2 hi2 d') → J (V + st) d' ∧ μ (V + st) < μ V
  out : ∀ V d, J V d → ¬ (nar a ≤ V ∧ V ≤ wid a u p) → Post d
  dear : ∀ V c x y, J V (t3 c x y) → nar a ≤ V → V ≤ wid a u p → c * V ≤ w * V * V + h * p → Post (t3 c x y)
theorem turns {a u p w h s : Int} {i : Nat} {x d : D} (b : Bg a u p w h) (s0 : nar a ≤ s) (s1 : s ≤ wid a u p) (su : ∀ W, s < W → W ≤ wid a u p → h * p ≤ w * W * W) (sd : ∀ W, nar a ≤ W → W < s → w * W * W ≤ h * p)
    (hx : [t2 s 1, t2 (s - 1) (-1)][i]? = some x) (hI : IW a u p w h s i d) : ∃ f st J μ, x = t2 f st ∧ TurnW a u p w h st J μ (IW a u p w h s (i + 1)) ∧ J f d := by
  have n0 : 1 ≤ nar a := by unfold nar; omega
  rcases i with _ | _ | i
  · cases hx
    refine ⟨s, 1, fun V d => s ≤ V ∧ V ≤ wid a u p + 1 ∧ BestW a u p w h s (V - 1) d, fun V => (wid a u p + 1 - V).toNat, rfl, ⟨fun V d j => ⟨_, _, j.2.2⟩, fun V d d' ⟨j1, j2, j3⟩ g1 g2 q => ?_, fun V d ⟨j1, j2, j3⟩ q => ?_, fun V c x y ⟨j1, j2, j3⟩ g1 g2 q => ?_⟩, ⟨Int.le_refl _, by omega, .inl ⟨by omega, hI.1 rfl⟩⟩⟩
    · refine ⟨⟨by omega, by omega, q _ _ _ _ j3 (fun x h1 h2 => by omega) (by omega)⟩, by omega⟩
    · have : V - 1 = wid a u p := by omega
      rw [this] at j3
      exact ⟨fun h => by omega, fun _ => j3, fun h => by omega⟩
    · refine ⟨fun h => by omega, fun _ => ?_, fun h => by omega⟩
      rcases j3 with ⟨_, r⟩ | ⟨r0, c', x', y', r, sn⟩
      · cases r
      · cases r
        refine .inr ⟨s1, _, _, _, rfl, sn.of fun W' h1 h2 h3 => ?_⟩
        exact stop_up (W := V) (W' := W') (Int.le_of_lt b.h0) (Int.le_of_lt b.w0) (by omega) (by omega) (su V (by omega) g2) q
  · cases hx
    refine ⟨s - 1, -1, fun V d => nar a - 1 ≤ V ∧ V ≤ s - 1 ∧ BestW a u p w h (V + 1) (wid a u p) d, fun V => (V + 1 - nar a).toNat, rfl, ⟨fun V d j => ⟨_, _, j.2.2⟩, fun V d d' ⟨j1, j2, j3⟩ g1 g2 q => ?_, fun V d ⟨j1, j2, j3⟩ q => ?_, fun V c x y ⟨j1, j2, j3⟩ g1 g2 q => ?_⟩, ⟨by omega, by omega, by rw [show s - 1 + 1 = s by omega]; exact hI.2.1 rfl⟩⟩
    · refine ⟨⟨by omega, by omega, q _ _ _ _ j3 (fun x h1 h2 => by omega) (by omega)⟩, by omega⟩
    · have : V + 1 = nar a := by omega
      rw [this] at j3
      exact ⟨fun h => by omega, fun h => by omega, fun _ => j3⟩
    · refine ⟨fun h => by omega, fun h => by omega, fun _ => ?_⟩
      rcases j3 with ⟨_, r⟩ | ⟨r0, c', x', y', r, sn⟩
      · cases r
      · cases r
        refine .inr ⟨by omega, _, _, _, rfl, sn.of fun W' h1 h2 h3 => ?_⟩
        exact stop_down (W := V) (W' := W') (Int.le_of_lt b.h0) (Int.le_of_lt b.w0) (by omega) (by omega) (sd V g1 (by omega)) q
  · cases hx
def pr_Bargain_frame_by_widths (T : Tx K mg) : Pr := fun ds B k e => ∃ a u p w h s : Int, ds = [bgD T a u p w h, .int s] ∧ Bg a u p w h ∧ BgS a u p w h ∧ nar a ≤ s ∧ s ≤ wid a u p ∧ (∀ W, s < W → W ≤ wid a u p → h * p ≤ w * W * W) ∧ (∀ W, nar a ≤ W → W < s → w * W * W ≤ h * p) ∧ ∀ W H, CF a u p w h W H → k (t2 W H) B
theorem okD_Bargain_frame_by_widths (T : Tx K mg) : FnOk P w K mg base (L2.CX P w) 2 T.a_Bargain_frame_by_widths T.d_Bargain_frame_by_widths P_Bargain_frame_by_widths (spD K (pr_Bargain_frame_by_widths T)) := by
  refine T.F_Bargain_frame_by_widths.okX sc_Bargain_frame_by_widths (spD_len fun ds B k e h => by obtain ⟨a, u, p, w1, h1, s, rfl, b, z, s0, s1, su, sd, hk⟩ := h; rfl) (fun cdv A outer s H vs Q E hr h => ?_)
  have G_Bargain_may_be_cheaper : FnOk P w K mg base (L2.CX P w) 1 _ _ _ _ := okD_Bargain_may_be_cheaper T
  have G_quotient_up : FnOk P w K mg base (L2.CX P w) 1 _ _ _ _ := okD_quotient_up T
  obtain ⟨G, ds, B, k, e, hs, hR, ⟨a, u, p, w1, h1, s, rfl, b, z, s0, s1, su, sd, hk⟩, hK, hX⟩ := h
  refine ⟨_, (pss_cons (ps_set (i := 2) sc_Bargain_frame_by_widths.nd rfl (.inl rfl) pe_non)
 (pss_cons (ps_for (passes_of rfl) rfl (pi_tup (pe_tup (pa_cons (pe_tup (pa_cons (pv 1) (pa_cons pe_int pa_nil))) (pa_cons (pe_tup (pa_cons (pe_op op_sub (pv 1) pe_int) (pa_cons (pe_un un_neg pe_int) pa_nil))) pa_nil)))) (pg_tup rfl (pgs_cons (pg_name (i := 3) sc_Bargain_frame_by_widths.nd rfl (.inl rfl)) (pgs_cons (pg_name (i := 4) sc_Bargain_frame_by_widths.nd rfl (.inl rfl)) pgs_nil)))
 (pss_cons (ps_set (i := 5) sc_Bargain_frame_by_widths.nd rfl (.inl rfl) (pv 3))
 (pss_one (ps_while (passes_of rfl) (PW.pt (pw_and (pt_chain op_le op_le (pe_fld (pv 0) rfl) (pv 5) (pe_fld (pv 0) rfl)) (pw_and1 (pt_val (pe_meth (pv 0) T.cl_Bargain T.M_Bargain_may_be_cheaper G_Bargain_may_be_cheaper (hr.mono (by decide)) T.b_Bargain_may_be_cheaper .nil passL (pa_cons (pv 5) (pa_cons (pv 2) pa_nil)))))))
 (pss_cons (ps_set (i := 6) sc_Bargain_frame_by_widths.nd rfl (.inl rfl) (pe_callB (call_max2 rfl) (by rfl) T.n_max (by decide +kernel) (pa_cons (pe_fld (pv 0) rfl) (pa_cons (pe_call G_quotient_up (hr.mono (by decide)) (by rfl) T.g_quotient_up T.F_quotient_up.kp T.b_quotient_up .nil passL (pa_cons (pe_fld (pv 0) rfl) (pa_cons (pv 5) pa_nil))) pa_nil))))
 (pss_cons (ps_set (i := 7) sc_Bargain_frame_by_widths.nd rfl (.inl rfl) (pe_tup (pa_cons (pe_op op_add (pe_op op_mulW (pe_fld (pv 0) rfl) (pv 5)) (pe_op op_mulW (pe_fld (pv 0) rfl) (pv 6))) (pa_cons (pv 5) (pa_cons (pv 6) pa_nil)))))
 (pss_cons (ps_set (i := 2) sc_Bargain_frame_by_widths.nd rfl (.inl rfl) (pe_ifExp (pt_cmp (pc_isN (pv 2))) (pv 7) (pe_callB (RM.cr_min2T rfl (un65 hr)) (by rfl) T.n_min (by decide +kernel) (pa_cons (pv 2) (pa_cons (pv 7) pa_nil)))))
 (pss_one (ps_set (i := 5) sc_Bargain_frame_by_widths.nd rfl (.inl rfl) (pe_op op_add (pv 5) (pv 4)))))))))))
 (pss_one (ps_ret (pe_tup (pa_cons (pe_ix ix_tup (pv 2) pe_int (fun _ _ => rfl)) (pa_cons (pe_ix ix_tup (pv 2) pe_int (fun _ _ => rfl)) pa_nil))))))), run_body (ρ := [some (bgD T a u p w1 h1), some (.int s), none, none, none, none, none, none]) hs hR hK hX rfl ?_⟩
  have n0 : 1 ≤ nar a := by unfold nar; omega
  have bs := z.bw2 b (by omega) s1
  have hh := b.h0
  have hw := b.w0
  have bw := z.bw
  have bh := z.bh
  have bp := z.bp
  refine ws_seq (ws_set (we_non ?_))
  refine ws_cut (fun ρ' B' => (∃ d o1 o2 o3 o4 o5, ρ' = [some (bgD T a u p w1 h1), some (.int s), some d, o1, o2, o3, o4, o5] ∧ BestW a u p w1 h1 (nar a) (wid a u p) d) ∧ B = B') ?_ ?_
  · refine ws_for_tup <| we_tup <| wa_cons <| we_tup <| wa_cons <| we_var rfl <| wa_cons <| we_int <| wa_nil ⟨Nat.le_of_ble_eq_true rfl, wa_cons <| we_tup <| wa_cons <| we_op <| we_var rfl <| we_int <| ro_i0 <| wa_cons <| we_neg <| we_int ⟨_, rfl, wa_nil ⟨Nat.le_of_ble_eq_true rfl, wa_nil ⟨Nat.le_of_ble_eq_true rfl, _, rfl, fun i ρ' B' => (∃ d o1 o2 o3 o4 o5, ρ' = [some (bgD T a u p w1 h1), some (.int s), some d, o1, o2, o3, o4, o5] ∧ IW a u p w1 h1 s i d) ∧ B = B', ⟨⟨_, _, _, _, _, _, rfl, fun _ => rfl, fun h => by omega, fun h => by omega⟩, rfl⟩, fun i x ρ' B' hx hI => ?_, fun ρ' B' ⟨⟨d, o1, o2, o3, o4, o5, e1, hI⟩, e2⟩ => ⟨⟨d, o1, o2, o3, o4, o5, e1, hI.2.2 rfl⟩, e2⟩⟩⟩⟩⟩
    obtain ⟨⟨d, o1, o2, o3, o4, o5, rfl, hI⟩, rfl⟩ := hI
    obtain ⟨f, st, J, μ, rfl, tw, j0⟩ := turns b s0 s1 su sd hx hI
    refine wg_tup rfl <| wgs_cons <| wg_name <| wgs_cons <| wg_name <| wgs_nil ?_
    refine ws_seq (ws_set (we_var rfl ?_))
    refine ws_while (fun n ρ' B' => (∃ V d o6 o7, ρ' = [some (bgD T a u p w1 h1), some (.int s), some d, some (.int f), some (.int st), some (.int V), o6, o7] ∧ J V d ∧ μ V = n) ∧ B = B') (μ f) ⟨⟨_, _, _, _, rfl, j0, rfl⟩, rfl⟩ ?_
    rintro n ρ' B' ⟨⟨V, d, o6, o7, rfl, j, rfl⟩, rfl⟩
    clear hI j0
    refine wt_and <| wt_test <| we_chain <| we_fld <| we_var rfl ⟨_, _, _, _, rfl, T.cl_Bargain, T.na_Bargain_narrowest, rfl, we_var rfl <| ro_b0 ⟨_, rfl, (fun g1 => we_fld <| we_var rfl ⟨_, _, _, _, rfl, T.cl_Bargain, T.na_Bargain_widest, rfl, ro_b0 ⟨_, rfl, (fun g2 => ?_), (fun g2 => ?_)⟩⟩), (fun g1 => ⟨_, rfl, (fun h => nomatch h), (fun _ => ?_)⟩)⟩⟩
    · have g1 := of_decide_eq_true g1
      have g2 := of_decide_eq_true g2
      have bV := z.bw2 b (by omega) g2
      obtain ⟨lo, hi, hb⟩ := tw.bw _ _ j
      have v0 : 0 < V := by omega
      have hd : (d = .non) ∨ ∃ c x y : Int, d = t3 c x y ∧ Bd 700 c := by
        rcases hb with ⟨_, q⟩ | ⟨_, c, x, y, q, sn⟩
        · exact .inl q
        · exact .inr ⟨c, x, y, q, sn.bd⟩
      refine wt_val (we_meth (we_var rfl ⟨_, _, rfl, by decide +kernel, wa_cons <| we_var rfl <| wa_cons <| we_var rfl <| wa_nil ⟨a, u, p, w1, h1, V, d, rfl, z, bV, ?_⟩⟩))
      have e1 : (if cu p V > u then cu p V else u) = hgt u p V := by unfold hgt; split <;> omega
      have bh2 := (z.bh2 b v0).1
      rcases hd with rfl | ⟨c, x, y, rfl, bc⟩
      · refine .inl ⟨rfl, _, rfl, (fun _ => ?_), (fun h => nomatch h)⟩
        refine ws_seq (ws_set (we_max2 (wa_cons (we_fld (we_var rfl ⟨_, _, _, _, rfl, T.cl_Bargain, T.na_Bargain_up, rfl, (wa_cons (we_call (wa_cons (we_fld (we_var rfl ⟨_, _, _, _, rfl, T.cl_Bargain, T.na_Bargain_product, rfl, (wa_cons (we_var rfl (wa_nil ⟨_, _, rfl, v0, bV.mono (by decide), (wa_nil ⟨_, _, rfl, ?_⟩)⟩)))⟩)))))⟩)))))
        rw [e1]
        refine ws_seq (ws_set (we_tup (wa_cons (we_op (we_op (we_fld (we_var rfl ⟨_, _, _, _, rfl, T.cl_Bargain, T.na_Bargain_wide, rfl, (we_var rfl (ro_i (cmc (by apply Bd.mono; (repeat (first | assumption | exact Bd.lit 64 (by decide +kernel) | exact Bd.lit 2000 (by decide +kernel) | apply Bd.neg | apply Bd.fdiv | apply Bd.mul | apply Bd.add2 | apply Bd.sub2)); decide) (by apply Bd.mono; (repeat (first | assumption | exact Bd.lit 64 (by decide +kernel) | exact Bd.lit 2000 (by decide +kernel) | apply Bd.neg | apply Bd.fdiv | apply Bd.mul | apply Bd.add2 | apply Bd.sub2)); decide)) (we_op (we_fld (we_var rfl ⟨_, _, _, _, rfl, T.cl_Bargain, T.na_Bargain_high, rfl, (we_var rfl (ro_i (cmc (by apply Bd.mono; (repeat (first | assumption | exact Bd.lit 64 (by decide +kernel) | exact Bd.lit 2000 (by decide +kernel) | apply Bd.neg | apply Bd.fdiv | apply Bd.mul | apply Bd.add2 | apply Bd.sub2)); decide) (by apply Bd.mono; (repeat (first | assumption | exact Bd.lit 64 (by decide +kernel) | exact Bd.lit 2000 (by decide +kernel) | apply Bd.neg | apply Bd.fdiv | apply Bd.mul | apply Bd.add2 | apply Bd.sub2)); decide)) (ro_i0 (wa_cons (we_var rfl (wa_cons (we_var rfl (wa_nil ⟨Nat.le_of_ble_eq_true rfl, ?_⟩))))))))⟩)))))⟩)))))))
        refine ws_seq (ws_set (we_ifE (wt_val (we_isN (we_var rfl ⟨_, rfl, (fun _ => we_var rfl ?_), (fun h => nomatch h)⟩)))))
        refine ws_set (we_op (we_var rfl (we_var rfl (ro_i0 ?_))))
        obtain ⟨q1, q2⟩ := tw.st V _ (t3 (w1 * V + h1 * hgt u p V) V (hgt u p V)) j g1 g2 fun lo hi lo2 hi2 r1 r2 r3 => (r1.one b z g1 g2 r2 r3).1 rfl
        exact ⟨_, q2, ⟨_, _, _, _, rfl, q1, rfl⟩, rfl⟩
      · refine .inr ⟨c, x, y, rfl, bc, _, rfl, (fun g3 => ?_), (fun g3 => ?_)⟩
        · refine ws_seq (ws_set (we_max2 (wa_cons (we_fld (we_var rfl ⟨_, _, _, _, rfl, T.cl_Bargain, T.na_Bargain_up, rfl, (wa_cons (we_call (wa_cons (we_fld (we_var rfl ⟨_, _, _, _, rfl, T.cl_Bargain, T.na_Bargain_product, rfl, (wa_cons (we_var rfl (wa_nil ⟨_, _, rfl, v0, bV.mono (by decide), (wa_nil ⟨_, _, rfl, ?_⟩)⟩)))⟩)))))⟩)))))
          rw [e1]
          refine ws_seq (ws_set (we_tup (wa_cons (we_op (we_op (we_fld (we_var rfl ⟨_, _, _, _, rfl, T.cl_Bargain, T.na_Bargain_wide, rfl, (we_var rfl (ro_i (cmc (by apply Bd.mono; (repeat (first | assumption | exact Bd.lit 64 (by decide +kernel) | exact Bd.lit 2000 (by decide +kernel) | apply Bd.neg | apply Bd.fdiv | apply Bd.mul | apply Bd.add2 | apply Bd.sub2)); decide) (by apply Bd.mono; (repeat (first | assumption | exact Bd.lit 64 (by decide +kernel) | exact Bd.lit 2000 (by decide +kernel) | apply Bd.neg | apply Bd.fdiv | apply Bd.mul | apply Bd.add2 | apply Bd.sub2)); decide)) (we_op (we_fld (we_var rfl ⟨_, _, _, _, rfl, T.cl_Bargain, T.na_Bargain_high, rfl, (we_var rfl (ro_i (cmc (by apply Bd.mono; (repeat (first | assumption | exact Bd.lit 64 (by decide +kernel) | exact Bd.lit 2000 (by decide +kernel) | apply Bd.neg | apply Bd.fdiv | apply Bd.mul | apply Bd.add2 | apply Bd.sub2)); decide) (by apply Bd.mono; (repeat (first | assumption | exact Bd.lit 64 (by decide +kernel) | exact Bd.lit 2000 (by decide +kernel) | apply Bd.neg | apply Bd.fdiv | apply Bd.mul | apply Bd.add2 | apply Bd.sub2)); decide)) (ro_i0 (wa_cons (we_var rfl (wa_cons (we_var rfl (wa_nil ⟨Nat.le_of_ble_eq_true rfl, ?_⟩))))))))⟩)))))⟩)))))))
          refine ws_seq (ws_set (we_ifE (wt_val (we_isN (we_var rfl ⟨_, rfl, (fun h => nomatch h), (fun _ => we_min2T (wa_cons (we_var rfl (wa_cons (we_var rfl (wa_nil ⟨[c, x, y], [w1 * V + h1 * hgt u p V, V, hgt u p V], rfl, (fun l => ?_), (fun l => ?_)⟩))))))⟩)))))
          · refine ws_set (we_op (we_var rfl (we_var rfl (ro_i0 ?_))))
            obtain ⟨q1, q2⟩ := tw.st V _ (t3 c x y) j g1 g2 fun lo hi lo2 hi2 r1 r2 r3 => ((r1.one b z g1 g2 r2 r3).2 _ _ _ rfl).1 (lexB l)
            exact ⟨_, q2, ⟨_, _, _, _, rfl, q1, rfl⟩, rfl⟩
          · refine ws_set (we_op (we_var rfl (we_var rfl (ro_i0 ?_))))
            obtain ⟨q1, q2⟩ := tw.st V _ (t3 (w1 * V + h1 * hgt u p V) V (hgt u p V)) j g1 g2 fun lo hi lo2 hi2 r1 r2 r3 => ((r1.one b z g1 g2 r2 r3).2 _ _ _ rfl).2 (lexB l)
            exact ⟨_, q2, ⟨_, _, _, _, rfl, q1, rfl⟩, rfl⟩
        · exact ⟨⟨_, _, _, _, _, _, rfl, tw.dear _ _ _ _ j g1 g2 (by have := of_decide_eq_false g3; omega)⟩, rfl⟩
    · have g2 := of_decide_eq_false g2
      exact ⟨(fun h => nomatch h), fun _ => ⟨⟨_, _, _, _, _, _, rfl, tw.out _ _ j (by omega)⟩, rfl⟩⟩
    · have g1 := of_decide_eq_false g1
      exact ⟨(fun h => nomatch h), fun _ => ⟨⟨_, _, _, _, _, _, rfl, tw.out _ _ j (by omega)⟩, rfl⟩⟩
  rintro _ _ ⟨⟨d, o1, o2, o3, o4, o5, rfl, hb⟩, rfl⟩
  rcases hb with ⟨q, _⟩ | ⟨_, c, W, H, rfl, sn⟩
  · unfold wid at q; omega
  · have cf : CF a u p w1 h1 W H := CF.all b sn.fr fun W' g1 g2 => by rw [← sn.co]; exact sn.le W' g1 g2
    refine (ws_ret (we_tup (wa_cons (we_op (we_var rfl (we_int (ro_ixT rfl (wa_cons (we_op (we_var rfl (we_int (ro_ixT rfl (wa_nil ⟨Nat.le_of_ble_eq_true rfl, ?_⟩)))))))))))))
    exact hk _ _ cf
end
end AW

set_option linter.all false
set_option maxRecDepth 100000
set_option maxHeartbeats 8000000
namespace AW
open PySem PySem.Spec PyProof.Rows L2 Fewest
variable [Tbs]
section
variable {P : Program} {w : World} {K : PySem.W.Frag} {mg : Str → Option Value} {base : Heap}
def RtB (r a : Int) : Prop := 0 ≤ r ∧ r * r ≤ a ∧ a < (r + 1) * (r + 1)
theorem we_rootB {E : XK} {e : EW} {ρ : List (Option D)} {B : Int} {k : KD} {t : TA} (h : Wa K E e t ρ B fun ds B1 => ∃ a : Int, ds = [.int a] ∧ 0 ≤ a ∧ Bd 12000 a ∧ ∀ r : Int, RtB r a → k (.int r) B1) : We K E e (tCB rRoot t) ρ B k :=
  we_cb fun σ H G Q s en x q => h σ H G Q s en x fun ds vs B1 G1 H1 ⟨a, ed, a0, ba, hk⟩ e1 r1 => q ds vs B1 G1 H1 (fun ws H2 G2 Q2 s2 r2 q2 => by
    subst ed
    obtain ⟨v, _, rfl, rv, rfl⟩ := r2
    rw [show v = _ from rv]
    exact ⟨a, rfl, a0, ba, fun r r0 h1 h2 => q2 _ _ _ _ _ (hk r ⟨r0, h1, h2⟩) (Ext.refl s2) rfl⟩) e1 r1
theorem Bg.sw {a u p w h : Int} (b : Bg a u p w h) : Bg u a p h w := ⟨b.u0, b.a0, by rw [Int.mul_comm]; exact b.hp, b.h0, b.w0⟩
theorem Fr.sw {a u p W H : Int} (f : Fr a u p W H) : Fr u a p H W := ⟨f.2.1, f.1, by rw [Int.mul_comm]; exact f.2.2⟩
theorem cu_pos {n d : Int} (hd : 0 < d) (hn : 0 < n) : 0 < cu n d := by
  have := (cu_ge (n := n) hd).1
  refine Int.lt_of_not_ge fun q => ?_
  have : d * cu n d ≤ 0 := Int.mul_nonpos_of_nonneg_of_nonpos (by omega) (by omega)
  omega
theorem side_pos {a u p w h : Int} (b : Bg a u p w h) (hs : h * p ≤ w * a * a) : 0 < a := by
  have hp : 0 < h * p := Int.mul_pos b.h0 b.p0
  have a0 := b.a0
  refine Int.lt_of_not_ge fun z => ?_
  have : a = 0 := by omega
  subst this
  rw [Int.mul_zero] at hs
  omega
theorem CF.ex {a u p w h : Int} (b : Bg a u p w h) : ∃ W H, CF a u p w h W H := by
  have key : ∀ n : Nat, (∃ W H, Fr a u p W H ∧ (w * W + h * H).toNat = n) → ∃ W H, CF a u p w h W H := by
    intro n
    induction n using Nat.strongRecOn with
    | ind n ih =>
      rintro ⟨W, H, f, e⟩
      by_cases q : ∃ W' H', Fr a u p W' H' ∧ w * W' + h * H' < w * W + h * H
      · obtain ⟨W', H', f', l⟩ := q
        obtain ⟨W0, H0⟩ := f'.pos b
        have := Int.mul_pos b.w0 W0
        have := Int.mul_pos b.h0 H0
        exact ih _ (by omega) ⟨W', H', f', rfl⟩
      · exact ⟨W, H, f, fun W' H' f' => Int.not_lt.mp fun l => q ⟨W', H', f', l⟩⟩
  exact key _ ⟨nar a, hgt u p (nar a), hgt_fr (by unfold nar; omega) (by unfold nar; omega), rfl⟩
theorem CF.bd {a u p w h W H : Int} (b : Bg a u p w h) (z : BgS a u p w h) (c : CF a u p w h W H) : Bd 700 (w * W + h * H) ∧ 0 < w * W + h * H := by
  obtain ⟨W0, H0⟩ := c.fr.pos b
  have x0 := Int.mul_pos b.w0 W0
  have y0 := Int.mul_pos b.h0 H0
  have s := seen_one b z (Int.le_refl _) (show nar a ≤ wid a u p by unfold wid; omega)
  have l := c.le _ _ s.fr
  exact ⟨Bd.of_le (by omega) l s.bd, by omega⟩
def pr_Bargain_least_cost (T : Tx K mg) : Pr := fun ds B k e => ∃ a u p w h : Int, ds = [bgD T a u p w h] ∧ Bg a u p w h ∧ BgS a u p w h ∧ ∀ c, 0 ≤ c → (∀ W H, Fr a u p W H → c ≤ w * W + h * H) → k (.int c) B
theorem okD_Bargain_least_cost (T : Tx K mg) : FnOk P w K mg base (L2.CX P w) 2 T.a_Bargain_least_cost T.d_Bargain_least_cost P_Bargain_least_cost (spD K (pr_Bargain_least_cost T)) := by
  refine T.F_Bargain_least_cost.okX sc_Bargain_least_cost (spD_len fun ds B k e h => by obtain ⟨a, u, p, w1, h1, rfl, b, z, hk⟩ := h; rfl) (fun cdv A outer s H vs Q E hr h => ?_)
  have G_quotient_up : FnOk P w K mg base (L2.CX P w) 1 _ _ _ _ := okD_quotient_up T
  obtain ⟨G, ds, B, k, e, hs, hR, ⟨a, u, p, w1, h1, rfl, b, z, hk⟩, hK, hX⟩ := h
  refine ⟨_, (pss_cons (ps_par3 (i := 1) (j := 2) (l := 3) (by rfl) sc_Bargain_least_cost.nd rfl rfl rfl (by decide) (by decide) (by decide) rfl rfl rfl (pa_cons (pe_fld (pv 0) rfl) (pa_cons (pe_fld (pv 0) rfl) (pa_cons (pe_fld (pv 0) rfl) pa_nil))) (by rfl))
 (pss_cons (ps_if (pt_cmpR op_ge (pe_op op_mulW (pe_op op_mulW (pv 1) (pe_fld (pv 0) rfl)) (pe_fld (pv 0) rfl)) (pe_op op_mulW (pv 2) (pv 3)) (nomark _))
 (pss_one (ps_ret (pe_op op_add (pe_op op_mulW (pv 1) (pe_fld (pv 0) rfl)) (pe_call G_quotient_up (hr.mono (by decide)) (by rfl) T.g_quotient_up T.F_quotient_up.kp T.b_quotient_up .nil passL (pa_cons (pe_op op_mulW (pv 2) (pv 3)) (pa_cons (pe_fld (pv 0) rfl) pa_nil))))))
 pss_nil)
 (pss_cons (ps_if (pt_cmpR op_ge (pe_op op_mulW (pe_op op_mulW (pv 2) (pe_fld (pv 0) rfl)) (pe_fld (pv 0) rfl)) (pe_op op_mulW (pv 1) (pv 3)) (nomark _))
 (pss_one (ps_ret (pe_op op_add (pe_op op_mulW (pv 2) (pe_fld (pv 0) rfl)) (pe_call G_quotient_up (hr.mono (by decide)) (by rfl) T.g_quotient_up T.F_quotient_up.kp T.b_quotient_up .nil passL (pa_cons (pe_op op_mulW (pv 1) (pv 3)) (pa_cons (pe_fld (pv 0) rfl) pa_nil))))))
 pss_nil)
 (pss_one (ps_ret (pe_op op_add (pe_callBfun cr_root (by rfl) T.mi_isqrt (pa_cons (pe_op op_sub (pe_op op_mulW (pe_op op_mulW (pe_op op_mul pe_int (pv 1)) (pv 2)) (pv 3)) pe_int) pa_nil)) pe_int)))))), run_body (ρ := [some (bgD T a u p w1 h1), none, none, none]) hs hR hK hX rfl ?_⟩
  have ba := z.ba
  have bu := z.bu
  have bw := z.bw
  have bh := z.bh
  have bp := z.bp
  have p0 := b.p0
  have hp0 := Int.mul_pos b.h0 p0
  have wp0 := Int.mul_pos b.w0 p0
  refine ws_seq (ws_par3 (wa_cons (we_fld (we_var rfl ⟨_, _, _, _, rfl, T.cl_Bargain, T.na_Bargain_wide, rfl, (wa_cons (we_fld (we_var rfl ⟨_, _, _, _, rfl, T.cl_Bargain, T.na_Bargain_high, rfl, (wa_cons (we_fld (we_var rfl ⟨_, _, _, _, rfl, T.cl_Bargain, T.na_Bargain_product, rfl, (wa_nil ⟨_, _, _, rfl, ?_⟩)⟩)))⟩)))⟩))))
  have n4 : 0 < 4 * w1 * h1 * p := by
    have e : 4 * w1 * h1 * p = 4 * (w1 * (h1 * p)) := by grind
    have := Int.mul_pos b.w0 hp0
    rw [e]; omega
  have b4 : Bd 12000 (4 * w1 * h1 * p - 1) := (by apply Bd.mono; (repeat (first | assumption | exact Bd.lit 64 (by decide +kernel) | exact Bd.lit 2000 (by decide +kernel) | apply Bd.neg | apply Bd.fdiv | apply Bd.mul | apply Bd.add2 | apply Bd.sub2)); decide)
  refine ws_seq (ws_if (wt_test (we_op (we_op (we_op (we_var rfl (we_fld (we_var rfl ⟨_, _, _, _, rfl, T.cl_Bargain, T.na_Bargain_across, rfl, (ro_i (cmc (by apply Bd.mono; (repeat (first | assumption | exact Bd.lit 64 (by decide +kernel) | exact Bd.lit 2000 (by decide +kernel) | apply Bd.neg | apply Bd.fdiv | apply Bd.mul | apply Bd.add2 | apply Bd.sub2)); decide) (by apply Bd.mono; (repeat (first | assumption | exact Bd.lit 64 (by decide +kernel) | exact Bd.lit 2000 (by decide +kernel) | apply Bd.neg | apply Bd.fdiv | apply Bd.mul | apply Bd.add2 | apply Bd.sub2)); decide)) (we_fld (we_var rfl ⟨_, _, _, _, rfl, T.cl_Bargain, T.na_Bargain_across, rfl, (ro_i (cmc (by apply Bd.mono; (repeat (first | assumption | exact Bd.lit 64 (by decide +kernel) | exact Bd.lit 2000 (by decide +kernel) | apply Bd.neg | apply Bd.fdiv | apply Bd.mul | apply Bd.add2 | apply Bd.sub2)); decide) (by apply Bd.mono; (repeat (first | assumption | exact Bd.lit 64 (by decide +kernel) | exact Bd.lit 2000 (by decide +kernel) | apply Bd.neg | apply Bd.fdiv | apply Bd.mul | apply Bd.add2 | apply Bd.sub2)); decide)) (we_op (we_var rfl (we_var rfl (ro_i (cmc (by apply Bd.mono; (repeat (first | assumption | exact Bd.lit 64 (by decide +kernel) | exact Bd.lit 2000 (by decide +kernel) | apply Bd.neg | apply Bd.fdiv | apply Bd.mul | apply Bd.add2 | apply Bd.sub2)); decide) (by apply Bd.mono; (repeat (first | assumption | exact Bd.lit 64 (by decide +kernel) | exact Bd.lit 2000 (by decide +kernel) | apply Bd.neg | apply Bd.fdiv | apply Bd.mul | apply Bd.add2 | apply Bd.sub2)); decide)) (ro_b0 ⟨_, rfl, ⟨fun hc1 => ?_, fun hc2 => ?_⟩⟩))))))⟩)))⟩))))))))
  · refine (ws_ret (we_op (we_op (we_var rfl (we_fld (we_var rfl ⟨_, _, _, _, rfl, T.cl_Bargain, T.na_Bargain_across, rfl, (ro_i (cmc (by apply Bd.mono; (repeat (first | assumption | exact Bd.lit 64 (by decide +kernel) | exact Bd.lit 2000 (by decide +kernel) | apply Bd.neg | apply Bd.fdiv | apply Bd.mul | apply Bd.add2 | apply Bd.sub2)); decide) (by apply Bd.mono; (repeat (first | assumption | exact Bd.lit 64 (by decide +kernel) | exact Bd.lit 2000 (by decide +kernel) | apply Bd.neg | apply Bd.fdiv | apply Bd.mul | apply Bd.add2 | apply Bd.sub2)); decide)) (we_call (wa_cons (we_op (we_var rfl (we_var rfl (ro_i (cmc (by apply Bd.mono; (repeat (first | assumption | exact Bd.lit 64 (by decide +kernel) | exact Bd.lit 2000 (by decide +kernel) | apply Bd.neg | apply Bd.fdiv | apply Bd.mul | apply Bd.add2 | apply Bd.sub2)); decide) (by apply Bd.mono; (repeat (first | assumption | exact Bd.lit 64 (by decide +kernel) | exact Bd.lit 2000 (by decide +kernel) | apply Bd.neg | apply Bd.fdiv | apply Bd.mul | apply Bd.add2 | apply Bd.sub2)); decide)) (wa_cons (we_fld (we_var rfl ⟨_, _, _, _, rfl, T.cl_Bargain, T.na_Bargain_across, rfl, (wa_nil ⟨_, _, rfl, side_pos b (of_decide_eq_true hc1), ba.mono (by decide), (ro_i0 ?_)⟩)⟩))))))))))⟩))))))
    exact hk _ (by have := cu_pos (side_pos b (of_decide_eq_true hc1)) hp0; have := Int.mul_nonneg (Int.le_of_lt b.w0) b.a0; omega) fun W H f => lc_side b f (of_decide_eq_true hc1)
  · refine ws_next ?_
    refine ws_seq (ws_if (wt_test (we_op (we_op (we_op (we_var rfl (we_fld (we_var rfl ⟨_, _, _, _, rfl, T.cl_Bargain, T.na_Bargain_up, rfl, (ro_i (cmc (by apply Bd.mono; (repeat (first | assumption | exact Bd.lit 64 (by decide +kernel) | exact Bd.lit 2000 (by decide +kernel) | apply Bd.neg | apply Bd.fdiv | apply Bd.mul | apply Bd.add2 | apply Bd.sub2)); decide) (by apply Bd.mono; (repeat (first | assumption | exact Bd.lit 64 (by decide +kernel) | exact Bd.lit 2000 (by decide +kernel) | apply Bd.neg | apply Bd.fdiv | apply Bd.mul | apply Bd.add2 | apply Bd.sub2)); decide)) (we_fld (we_var rfl ⟨_, _, _, _, rfl, T.cl_Bargain, T.na_Bargain_up, rfl, (ro_i (cmc (by apply Bd.mono; (repeat (first | assumption | exact Bd.lit 64 (by decide +kernel) | exact Bd.lit 2000 (by decide +kernel) | apply Bd.neg | apply Bd.fdiv | apply Bd.mul | apply Bd.add2 | apply Bd.sub2)); decide) (by apply Bd.mono; (repeat (first | assumption | exact Bd.lit 64 (by decide +kernel) | exact Bd.lit 2000 (by decide +kernel) | apply Bd.neg | apply Bd.fdiv | apply Bd.mul | apply Bd.add2 | apply Bd.sub2)); decide)) (we_op (we_var rfl (we_var rfl (ro_i (cmc (by apply Bd.mono; (repeat (first | assumption | exact Bd.lit 64 (by decide +kernel) | exact Bd.lit 2000 (by decide +kernel) | apply Bd.neg | apply Bd.fdiv | apply Bd.mul | apply Bd.add2 | apply Bd.sub2)); decide) (by apply Bd.mono; (repeat (first | assumption | exact Bd.lit 64 (by decide +kernel) | exact Bd.lit 2000 (by decide +kernel) | apply Bd.neg | apply Bd.fdiv | apply Bd.mul | apply Bd.add2 | apply Bd.sub2)); decide)) (ro_b0 ⟨_, rfl, ⟨fun hc5 => ?_, fun hc6 => ?_⟩⟩))))))⟩)))⟩))))))))
    · refine (ws_ret (we_op (we_op (we_var rfl (we_fld (we_var rfl ⟨_, _, _, _, rfl, T.cl_Bargain, T.na_Bargain_up, rfl, (ro_i (cmc (by apply Bd.mono; (repeat (first | assumption | exact Bd.lit 64 (by decide +kernel) | exact Bd.lit 2000 (by decide +kernel) | apply Bd.neg | apply Bd.fdiv | apply Bd.mul | apply Bd.add2 | apply Bd.sub2)); decide) (by apply Bd.mono; (repeat (first | assumption | exact Bd.lit 64 (by decide +kernel) | exact Bd.lit 2000 (by decide +kernel) | apply Bd.neg | apply Bd.fdiv | apply Bd.mul | apply Bd.add2 | apply Bd.sub2)); decide)) (we_call (wa_cons (we_op (we_var rfl (we_var rfl (ro_i (cmc (by apply Bd.mono; (repeat (first | assumption | exact Bd.lit 64 (by decide +kernel) | exact Bd.lit 2000 (by decide +kernel) | apply Bd.neg | apply Bd.fdiv | apply Bd.mul | apply Bd.add2 | apply Bd.sub2)); decide) (by apply Bd.mono; (repeat (first | assumption | exact Bd.lit 64 (by decide +kernel) | exact Bd.lit 2000 (by decide +kernel) | apply Bd.neg | apply Bd.fdiv | apply Bd.mul | apply Bd.add2 | apply Bd.sub2)); decide)) (wa_cons (we_fld (we_var rfl ⟨_, _, _, _, rfl, T.cl_Bargain, T.na_Bargain_up, rfl, (wa_nil ⟨_, _, rfl, side_pos b.sw (of_decide_eq_true hc5), bu.mono (by decide), (ro_i0 ?_)⟩)⟩))))))))))⟩))))))
      exact hk _ (by have := cu_pos (side_pos b.sw (of_decide_eq_true hc5)) wp0; have := Int.mul_nonneg (Int.le_of_lt b.h0) b.u0; omega) fun W H f => by have := lc_side b.sw f.sw (of_decide_eq_true hc5); omega
    · refine ws_next ?_
      refine (ws_ret (we_op (we_rootB (wa_cons (we_op (we_op (we_op (we_op (we_int (we_var rfl (ro_i (.inl ⟨by decide +kernel, by decide +kernel⟩) (we_var rfl (ro_i (cmc (by apply Bd.mono; (repeat (first | assumption | exact Bd.lit 64 (by decide +kernel) | exact Bd.lit 2000 (by decide +kernel) | apply Bd.neg | apply Bd.fdiv | apply Bd.mul | apply Bd.add2 | apply Bd.sub2)); decide) (by apply Bd.mono; (repeat (first | assumption | exact Bd.lit 64 (by decide +kernel) | exact Bd.lit 2000 (by decide +kernel) | apply Bd.neg | apply Bd.fdiv | apply Bd.mul | apply Bd.add2 | apply Bd.sub2)); decide)) (we_var rfl (ro_i (cmc (by apply Bd.mono; (repeat (first | assumption | exact Bd.lit 64 (by decide +kernel) | exact Bd.lit 2000 (by decide +kernel) | apply Bd.neg | apply Bd.fdiv | apply Bd.mul | apply Bd.add2 | apply Bd.sub2)); decide) (by apply Bd.mono; (repeat (first | assumption | exact Bd.lit 64 (by decide +kernel) | exact Bd.lit 2000 (by decide +kernel) | apply Bd.neg | apply Bd.fdiv | apply Bd.mul | apply Bd.add2 | apply Bd.sub2)); decide)) (we_int (ro_i0 (wa_nil ⟨_, rfl, by omega, b4, fun r hr => (we_int (ro_i0 ?_))⟩))))))))))))))))))
      exact hk _ (by have := hr.1; omega) fun W H f => lc_mid b f hr.1 hr.2.1
def pr_Bargain_frame_of_cost (T : Tx K mg) : Pr := fun ds B k e => ∃ a u p w h c s : Int, ds = [bgD T a u p w h, .int c, .int s] ∧ Bg a u p w h ∧ BgS a u p w h ∧ Bd 800 c ∧ Bd 1000 s ∧ (∃ t, w * s = c + h * t) ∧ (∃ x y, w * x + h * y = 1) ∧ (∀ W H, Fr a u p W H → w * W + h * H = c → k (t2 W H) B) ∧ ((∀ W H, Fr a u p W H → w * W + h * H ≠ c) → k .non B)
theorem okD_Bargain_frame_of_cost (T : Tx K mg) : FnOk P w K mg base (L2.CX P w) 1 T.a_Bargain_frame_of_cost T.d_Bargain_frame_of_cost P_Bargain_frame_of_cost (spD K (pr_Bargain_frame_of_cost T)) := by
  refine T.F_Bargain_frame_of_cost.okX sc_Bargain_frame_of_cost (spD_len fun ds B k e h => by obtain ⟨a, u, p, w1, h1, c, s, rfl, b, z, bc, bs, ⟨t, ht⟩, ⟨x, y, hxy⟩, hk, hn⟩ := h; rfl) (fun cdv A outer s H vs Q E hr h => ?_)
  obtain ⟨G, ds, B, k, e, hs, hR, ⟨a, u, p, w1, h1, c, s, rfl, b, z, bc, bs, ⟨t, ht⟩, ⟨x, y, hxy⟩, hk, hn⟩, hK, hX⟩ := h
  refine ⟨_, (pss_cons (ps_set (i := 3) sc_Bargain_frame_of_cost.nd rfl (.inl rfl) (pe_callB (call_min2 rfl) (by rfl) T.n_min (by decide +kernel) (pa_cons (pe_callB (call_max2 rfl) (by rfl) T.n_max (by decide +kernel) (pa_cons (pe_op op_fdivG (pv 1) (pe_op op_mul pe_int (pe_fld (pv 0) rfl))) (pa_cons (pe_fld (pv 0) rfl) pa_nil))) (pa_cons (pe_op op_fdivG (pe_op op_sub (pv 1) (pe_op op_mulW (pe_fld (pv 0) rfl) (pe_fld (pv 0) rfl))) (pe_fld (pv 0) rfl)) pa_nil))))
 (pss_cons (ps_set (i := 4) sc_Bargain_frame_of_cost.nd rfl (.inl rfl) (pe_op op_sub (pv 3) (pe_op op_modN (pe_op op_sub (pv 3) (pv 2)) (pe_fld (pv 0) rfl))))
 (pss_cons (ps_for (passes_of rfl) rfl (pi_tup (pe_tup (pa_cons (pv 4) (pa_cons (pe_op op_add (pv 4) (pe_fld (pv 0) rfl)) pa_nil)))) (pg_name (i := 5) sc_Bargain_frame_of_cost.nd rfl (.inl rfl))
 (pss_cons (ps_set (i := 6) sc_Bargain_frame_of_cost.nd rfl (.inl rfl) (pe_op op_fdivG (pe_op op_sub (pv 1) (pe_op op_mulW (pe_fld (pv 0) rfl) (pv 5))) (pe_fld (pv 0) rfl)))
 (pss_one (ps_if (PW.pt (pw_and (pt_cmpR op_ge (pv 5) (pe_fld (pv 0) rfl) (nomark _)) (pw_and (pt_cmpR op_ge (pv 6) (pe_fld (pv 0) rfl) (nomark _)) (pw_and1 (pt_cmpR op_ge (pe_op op_mulW (pv 5) (pv 6)) (pe_fld (pv 0) rfl) (nomark _))))))
 (pss_one (ps_ret (pe_tup (pa_cons (pv 5) (pa_cons (pv 6) pa_nil)))))
 pss_nil))))
 (pss_one (ps_ret pe_non))))), run_body (ρ := [some (bgD T a u p w1 h1), some (.int c), some (.int s), none, none, none, none]) hs hR hK hX rfl ?_⟩
  have ba := z.ba
  have bu := z.bu
  have bw := z.bw
  have bh := z.bh
  have bp := z.bp
  have w0 := b.w0
  have h0 := b.h0
  refine ws_seq (ws_set (we_min2 (wa_cons (we_max2 (wa_cons (we_op (we_var rfl (we_op (we_int (we_fld (we_var rfl ⟨_, _, _, _, rfl, T.cl_Bargain, T.na_Bargain_wide, rfl, (ro_i (.inl ⟨by decide +kernel, by decide +kernel⟩) (ro_i ⟨by omega, lg (by apply Bd.mono; (repeat (first | assumption | exact Bd.lit 64 (by decide +kernel) | exact Bd.lit 2000 (by decide +kernel) | apply Bd.neg | apply Bd.fdiv | apply Bd.mul | apply Bd.add2 | apply Bd.sub2)); decide)⟩ (wa_cons (we_fld (we_var rfl ⟨_, _, _, _, rfl, T.cl_Bargain, T.na_Bargain_across, rfl, (wa_nil ⟨_, _, rfl, (wa_cons (we_op (we_op (we_var rfl (we_op (we_fld (we_var rfl ⟨_, _, _, _, rfl, T.cl_Bargain, T.na_Bargain_high, rfl, (we_fld (we_var rfl ⟨_, _, _, _, rfl, T.cl_Bargain, T.na_Bargain_up, rfl, (ro_i (cmc (by apply Bd.mono; (repeat (first | assumption | exact Bd.lit 64 (by decide +kernel) | exact Bd.lit 2000 (by decide +kernel) | apply Bd.neg | apply Bd.fdiv | apply Bd.mul | apply Bd.add2 | apply Bd.sub2)); decide) (by apply Bd.mono; (repeat (first | assumption | exact Bd.lit 64 (by decide +kernel) | exact Bd.lit 2000 (by decide +kernel) | apply Bd.neg | apply Bd.fdiv | apply Bd.mul | apply Bd.add2 | apply Bd.sub2)); decide)) (ro_i0 (we_fld (we_var rfl ⟨_, _, _, _, rfl, T.cl_Bargain, T.na_Bargain_wide, rfl, (ro_i ⟨by omega, lg (by apply Bd.mono; (repeat (first | assumption | exact Bd.lit 64 (by decide +kernel) | exact Bd.lit 2000 (by decide +kernel) | apply Bd.neg | apply Bd.fdiv | apply Bd.mul | apply Bd.add2 | apply Bd.sub2)); decide)⟩ (wa_nil ⟨_, _, rfl, ?_⟩))⟩))))⟩))⟩)))))))⟩)⟩)))))⟩)))))))))))
  rw [mx_max, mn_min, show min (max (c.fdiv (2 * w1)) a) ((c - h1 * u).fdiv w1) = pkF a u w1 h1 c from rfl]
  refine ws_seq (ws_set (we_op (we_var rfl (we_op (we_op (we_var rfl (we_var rfl (ro_i0 (we_fld (we_var rfl ⟨_, _, _, _, rfl, T.cl_Bargain, T.na_Bargain_high, rfl, (ro_i (by omega) (ro_i0 ?_))⟩))))))))))
  rw [show pkF a u w1 h1 c - (pkF a u w1 h1 c - s).fmod h1 = blF a u w1 h1 c s from rfl]
  have bpk : Bd 1200 (pkF a u w1 h1 c) := by
    have q1 : Bd 1200 (c.fdiv (2 * w1)) := (by apply Bd.mono; (repeat (first | assumption | exact Bd.lit 64 (by decide +kernel) | exact Bd.lit 2000 (by decide +kernel) | apply Bd.neg | apply Bd.fdiv | apply Bd.mul | apply Bd.add2 | apply Bd.sub2)); decide)
    have q2 : Bd 1200 ((c - h1 * u).fdiv w1) := (by apply Bd.mono; (repeat (first | assumption | exact Bd.lit 64 (by decide +kernel) | exact Bd.lit 2000 (by decide +kernel) | apply Bd.neg | apply Bd.fdiv | apply Bd.mul | apply Bd.add2 | apply Bd.sub2)); decide)
    have q3 : Bd 1200 a := (by apply Bd.mono; (repeat (first | assumption | exact Bd.lit 64 (by decide +kernel) | exact Bd.lit 2000 (by decide +kernel) | apply Bd.neg | apply Bd.fdiv | apply Bd.mul | apply Bd.add2 | apply Bd.sub2)); decide)
    unfold pkF
    unfold Bd at *
    omega
  obtain ⟨m1, m2, m3⟩ := bl_mod (a := a) (u := u) (w := w1) (C := c) (s := s) h0
  have bbl : Bd 1201 (blF a u w1 h1 c s) := by
    have q3 : Bd 1200 h1 := (by apply Bd.mono; (repeat (first | assumption | exact Bd.lit 64 (by decide +kernel) | exact Bd.lit 2000 (by decide +kernel) | apply Bd.neg | apply Bd.fdiv | apply Bd.mul | apply Bd.add2 | apply Bd.sub2)); decide)
    have e : (2 : Nat) ^ 1201 = 2 * 2 ^ 1200 := by rw [Nat.pow_succ, Nat.mul_comm]
    unfold Bd at *
    omega
  have good := fun W H => good_of (W := W) (H := H) (C := c) (s := s) b ht hxy
  have fr1 := good_fr (a := a) (u := u) (P := p) (w := w1) (W := blF a u w1 h1 c s) h0 ht m1
  have fr2 := good_fr (a := a) (u := u) (P := p) (w := w1) (W := blF a u w1 h1 c s + h1) h0 ht (by obtain ⟨q, e⟩ := m1; exact ⟨q + 1, by rw [Int.mul_add]; omega⟩)
  generalize pkF a u w1 h1 c = pk at *
  generalize blF a u w1 h1 c s = bl at *
  refine ws_cut (fun ρ' B' => (∃ o1 o2, ρ' = [some (bgD T a u p w1 h1), some (.int c), some (.int s), some (.int pk), some (.int bl), o1, o2] ∧ ¬ GoodW a u p w1 h1 c bl ∧ ¬ GoodW a u p w1 h1 c (bl + h1)) ∧ B = B') ?_ ?_
  · refine ws_for_tup <| we_tup <| wa_cons <| we_var rfl <| wa_cons <| we_op <| we_var rfl <| we_fld <| we_var rfl ⟨_, _, _, _, rfl, T.cl_Bargain, T.na_Bargain_high, rfl, ro_i0 <| wa_nil ⟨Nat.le_of_ble_eq_true rfl, _, rfl, fun i ρ' B' => (∃ o1 o2, ρ' = [some (bgD T a u p w1 h1), some (.int c), some (.int s), some (.int pk), some (.int bl), o1, o2] ∧ (1 ≤ i → ¬ GoodW a u p w1 h1 c bl) ∧ (2 ≤ i → ¬ GoodW a u p w1 h1 c (bl + h1))) ∧ B = B', ⟨⟨_, _, rfl, (fun h => by omega), (fun h => by omega)⟩, rfl⟩, fun i x ρ' B' hx hI => ?_, fun ρ' B' ⟨⟨o1, o2, e1, k1, k2⟩, e2⟩ => ⟨⟨o1, o2, e1, k1 (Nat.le_of_ble_eq_true rfl), k2 (Nat.le_of_ble_eq_true rfl)⟩, e2⟩⟩⟩
    obtain ⟨⟨o1, o2, rfl, g1, g2⟩, rfl⟩ := hI
    obtain ⟨W, rfl, bW, hW, nx⟩ : ∃ W : Int, x = .int W ∧ Bd 1202 W ∧ (GoodW a u p w1 h1 c W → Fr a u p W ((c - w1 * W).fdiv h1) ∧ w1 * W + h1 * (c - w1 * W).fdiv h1 = c) ∧ (¬ GoodW a u p w1 h1 c W → (1 ≤ i + 1 → ¬ GoodW a u p w1 h1 c bl) ∧ (2 ≤ i + 1 → ¬ GoodW a u p w1 h1 c (bl + h1))) := by
      rcases i with _ | _ | i
      · cases hx
        exact ⟨_, rfl, bbl.mono (by decide), fr1, fun q => ⟨fun _ => q, fun h => by omega⟩⟩
      · cases hx
        exact ⟨_, rfl, Bd.mono (bbl.add (bh.mono (by decide))) (by decide), fr2, fun q => ⟨fun _ => g1 (by omega), fun h => q⟩⟩
      · cases hx
    refine wg_name ?_
    refine ws_seq (ws_set (we_op (we_op (we_var rfl (we_op (we_fld (we_var rfl ⟨_, _, _, _, rfl, T.cl_Bargain, T.na_Bargain_wide, rfl, (we_var rfl (ro_i (cmc (by apply Bd.mono; (repeat (first | assumption | exact Bd.lit 64 (by decide +kernel) | exact Bd.lit 2000 (by decide +kernel) | apply Bd.neg | apply Bd.fdiv | apply Bd.mul | apply Bd.add2 | apply Bd.sub2)); decide) (by apply Bd.mono; (repeat (first | assumption | exact Bd.lit 64 (by decide +kernel) | exact Bd.lit 2000 (by decide +kernel) | apply Bd.neg | apply Bd.fdiv | apply Bd.mul | apply Bd.add2 | apply Bd.sub2)); decide)) (ro_i0 (we_fld (we_var rfl ⟨_, _, _, _, rfl, T.cl_Bargain, T.na_Bargain_high, rfl, (ro_i ⟨by omega, lg (by apply Bd.mono; (repeat (first | assumption | exact Bd.lit 64 (by decide +kernel) | exact Bd.lit 2000 (by decide +kernel) | apply Bd.neg | apply Bd.fdiv | apply Bd.mul | apply Bd.add2 | apply Bd.sub2)); decide)⟩ ?_)⟩)))))⟩)))))))
    have bH : Bd 2500 ((c - w1 * W).fdiv h1) := (by apply Bd.mono; (repeat (first | assumption | exact Bd.lit 64 (by decide +kernel) | exact Bd.lit 2000 (by decide +kernel) | apply Bd.neg | apply Bd.fdiv | apply Bd.mul | apply Bd.add2 | apply Bd.sub2)); decide)
    generalize hH : (c - w1 * W).fdiv h1 = H at *
    refine (ws_if (wt_and (wt_test (we_op (we_var rfl (we_fld (we_var rfl ⟨_, _, _, _, rfl, T.cl_Bargain, T.na_Bargain_across, rfl, (ro_b0 ⟨_, rfl, ⟨fun hc1 => (wt_and (wt_test (we_op (we_var rfl (we_fld (we_var rfl ⟨_, _, _, _, rfl, T.cl_Bargain, T.na_Bargain_up, rfl, (ro_b0 ⟨_, rfl, ⟨fun hc2 => (wt_test (we_op (we_op (we_var rfl (we_var rfl (ro_i (cmc (by apply Bd.mono; (repeat (first | assumption | exact Bd.lit 64 (by decide +kernel) | exact Bd.lit 2000 (by decide +kernel) | apply Bd.neg | apply Bd.fdiv | apply Bd.mul | apply Bd.add2 | apply Bd.sub2)); decide) (by apply Bd.mono; (repeat (first | assumption | exact Bd.lit 64 (by decide +kernel) | exact Bd.lit 2000 (by decide +kernel) | apply Bd.neg | apply Bd.fdiv | apply Bd.mul | apply Bd.add2 | apply Bd.sub2)); decide)) (we_fld (we_var rfl ⟨_, _, _, _, rfl, T.cl_Bargain, T.na_Bargain_product, rfl, (ro_b0 ⟨_, rfl, ⟨fun hc3 => ?_, fun hc4 => ?_⟩⟩)⟩)))))))), fun hc5 => ⟨fun h => absurd h (by decide), fun _ => ?_⟩⟩⟩)⟩)))))), fun hc6 => ⟨fun h => absurd h (by decide), fun _ => ?_⟩⟩⟩)⟩)))))))
    · refine (ws_ret (we_tup (wa_cons (we_var rfl (wa_cons (we_var rfl (wa_nil ⟨Nat.le_of_ble_eq_true rfl, ?_⟩)))))))
      exact hk _ _ (hW (by rw [GoodW, hH]; exact ⟨of_decide_eq_true hc1, of_decide_eq_true hc2, of_decide_eq_true hc3⟩)).1 (hW (by rw [GoodW, hH]; exact ⟨of_decide_eq_true hc1, of_decide_eq_true hc2, of_decide_eq_true hc3⟩)).2
    · refine ws_next ?_
      exact ⟨⟨_, _, rfl, nx fun q => by rw [GoodW, hH] at q; exact of_decide_eq_false hc4 q.2.2⟩, rfl⟩
    · refine ws_next ?_
      exact ⟨⟨_, _, rfl, nx fun q => by rw [GoodW, hH] at q; exact of_decide_eq_false hc5 q.2.1⟩, rfl⟩
    · refine ws_next ?_
      exact ⟨⟨_, _, rfl, nx fun q => by rw [GoodW, hH] at q; exact of_decide_eq_false hc6 q.1⟩, rfl⟩
  rintro _ _ ⟨⟨o1, o2, rfl, g1, g2⟩, rfl⟩
  exact ws_ret (we_non (hn fun W H f e => (good W H f e).elim g1 g2))
def pr_Bargain_frame_by_costs (T : Tx K mg) : Pr := fun ds B k e => ∃ a u p w h : Int, ds = [bgD T a u p w h] ∧ Bg a u p w h ∧ BgS a u p w h ∧ Nat.gcd w.natAbs h.natAbs = 1 ∧ ∀ W H, CF a u p w h W H → k (t2 W H) B
theorem okD_Bargain_frame_by_costs (T : Tx K mg) : FnOk P w K mg base (L2.CX P w) 3 T.a_Bargain_frame_by_costs T.d_Bargain_frame_by_costs P_Bargain_frame_by_costs (spD K (pr_Bargain_frame_by_costs T)) := by
  refine T.F_Bargain_frame_by_costs.okX sc_Bargain_frame_by_costs (spD_len fun ds B k e h => by obtain ⟨a, u, p, w1, h1, rfl, b, z, hg, hk⟩ := h; rfl) (fun cdv A outer s H vs Q E hr h => ?_)
  have G_Bargain_frame_of_cost : FnOk P w K mg base (L2.CX P w) 1 _ _ _ _ := okD_Bargain_frame_of_cost T
  have G_Bargain_least_cost : FnOk P w K mg base (L2.CX P w) 2 _ _ _ _ := okD_Bargain_least_cost T
  have G_bezout : FnOk P w K mg base (L2.CX P w) 1 _ _ _ _ := okD_bezout T
  obtain ⟨G, ds, B, k, e, hs, hR, ⟨a, u, p, w1, h1, rfl, b, z, hg, hk⟩, hK, hX⟩ := h
  refine ⟨_, (pss_cons (ps_set (i := 1) sc_Bargain_frame_by_costs.nd rfl (.inl rfl) (pe_ix ix_tup (pe_call G_bezout (hr.mono (by decide)) (by rfl) T.g_bezout T.F_bezout.kp T.b_bezout .nil passL (pa_cons (pe_fld (pv 0) rfl) (pa_cons (pe_fld (pv 0) rfl) pa_nil))) pe_int (fun _ _ => rfl)))
 (pss_cons (ps_set (i := 2) sc_Bargain_frame_by_costs.nd rfl (.inl rfl) (pe_meth0 (pv 0) T.cl_Bargain T.M_Bargain_least_cost G_Bargain_least_cost (hr.mono (by decide)) T.b_Bargain_least_cost .nil passL))
 (pss_one (ps_while (passes_of rfl) (pt_val pe_bl)
 (pss_cons (ps_set (i := 3) sc_Bargain_frame_by_costs.nd rfl (.inl rfl) (pe_meth (pv 0) T.cl_Bargain T.M_Bargain_frame_of_cost G_Bargain_frame_of_cost (hr.mono (by decide)) T.b_Bargain_frame_of_cost .nil passL (pa_cons (pv 2) (pa_cons (pe_op op_mulW (pv 2) (pv 1)) pa_nil))))
 (pss_cons (ps_if (pt_cmp (pc_notN (pv 3)))
 (pss_one (ps_ret (pv 3)))
 pss_nil)
 (pss_one (ps_set (i := 2) sc_Bargain_frame_by_costs.nd rfl (.inl rfl) (pe_op op_add (pv 2) pe_int))))))))), run_body (ρ := [some (bgD T a u p w1 h1), none, none, none]) hs hR hK hX rfl ?_⟩
  have bw := z.bw
  have bh := z.bh
  obtain ⟨Wm, Hm, cm⟩ := CF.ex b
  obtain ⟨bC, pC⟩ := cm.bd b z
  refine ws_seq (ws_set (we_op (we_call (wa_cons (we_fld (we_var rfl ⟨_, _, _, _, rfl, T.cl_Bargain, T.na_Bargain_wide, rfl, (wa_cons (we_fld (we_var rfl ⟨_, _, _, _, rfl, T.cl_Bargain, T.na_Bargain_high, rfl, (wa_nil ⟨_, _, rfl, bw.mono (by decide), bh.mono (by decide), fun x y hxy hb => (we_int (ro_ixT rfl ?_))⟩)⟩)))⟩))))))
  obtain ⟨bx, _⟩ := hb 20 bw bh
  rw [hg] at hxy
  have e1 : w1 * x + h1 * y = 1 := by rw [Int.mul_comm w1, Int.mul_comm h1]; exact hxy
  refine ws_seq (ws_set (we_meth (we_var rfl ⟨_, _, rfl, by decide +kernel, (wa_nil ⟨a, u, p, w1, h1, rfl, b, z, fun c0 c0p hc0 => ?_⟩)⟩)))
  refine ws_while (fun n ρ' B' => (∃ c o, ρ' = [some (bgD T a u p w1 h1), some (.int x), some (.int c), o] ∧ 0 ≤ c ∧ c ≤ w1 * Wm + h1 * Hm ∧ (w1 * Wm + h1 * Hm - c).toNat = n) ∧ B = B') _ ⟨⟨_, _, rfl, c0p, hc0 _ _ cm.fr, rfl⟩, rfl⟩ ?_
  rintro n ρ' B' ⟨⟨c, o, rfl, c0, c1, rfl⟩, rfl⟩
  have bc : Bd 700 c := Bd.of_le (by omega) c1 bC
  refine wt_val (we_bl ⟨_, rfl, (fun _ => ?_), (fun h => nomatch h)⟩)
  refine ws_seq (ws_set (we_meth (we_var rfl ⟨_, _, rfl, by decide +kernel, wa_cons <| we_var rfl <| wa_cons <| we_op <| we_var rfl <| we_var rfl <| ro_i (cmc (by apply Bd.mono; (repeat (first | assumption | exact Bd.lit 64 (by decide +kernel) | exact Bd.lit 2000 (by decide +kernel) | apply Bd.neg | apply Bd.fdiv | apply Bd.mul | apply Bd.add2 | apply Bd.sub2)); decide) (by apply Bd.mono; (repeat (first | assumption | exact Bd.lit 64 (by decide +kernel) | exact Bd.lit 2000 (by decide +kernel) | apply Bd.neg | apply Bd.fdiv | apply Bd.mul | apply Bd.add2 | apply Bd.sub2)); decide)) <| wa_nil ⟨a, u, p, w1, h1, c, c * x, rfl, b, z, bc.mono (by decide), (by apply Bd.mono; (repeat (first | assumption | exact Bd.lit 64 (by decide +kernel) | exact Bd.lit 2000 (by decide +kernel) | apply Bd.neg | apply Bd.fdiv | apply Bd.mul | apply Bd.add2 | apply Bd.sub2)); decide), ⟨-(c * y), by grind⟩, ⟨x, y, e1⟩, fun W H f e => ?_, fun hn => ?_⟩⟩)))
  · refine ws_seq (ws_if (wt_val (we_notN (we_var rfl ⟨_, rfl, (fun _ => ws_ret (we_var rfl ?_)), (fun h => nomatch h)⟩))))
    exact hk W H ⟨f, fun W' H' f' => by have := cm.le _ _ f'; omega⟩
  · refine ws_seq (ws_if (wt_val (we_notN (we_var rfl ⟨_, rfl, (fun h => nomatch h), (fun _ => ws_next ?_)⟩))))
    have ne := hn _ _ cm.fr
    refine ws_set (we_op (we_var rfl (we_int (ro_i0 ?_))))
    exact ⟨_, by omega, ⟨_, _, rfl, by omega, by omega, rfl⟩, rfl⟩
end
end AW

set_option linter.all false
set_option maxRecDepth 100000
set_option maxHeartbeats 8000000
namespace AW
open PySem PySem.Spec PyProof.Rows L2 Fewest
variable [Tbs]
section
variable {P : Program} {w : World} {K : PySem.W.Frag} {mg : Str → Option Value} {base : Heap}
def pr_Bargain_best (T : Tx K mg) : Pr := fun ds B k e => ∃ a u p w h : Int, ds = [bgD T a u p w h] ∧ Bg a u p w h ∧ BgS a u p w h ∧ Nat.gcd w.natAbs h.natAbs = 1 ∧ ∀ W H, CF a u p w h W H → k (t2 W H) B
theorem okD_Bargain_best (T : Tx K mg) : FnOk P w K mg base (L2.CX P w) 4 T.a_Bargain_best T.d_Bargain_best P_Bargain_best (spD K (pr_Bargain_best T)) := by
  refine T.F_Bargain_best.okX sc_Bargain_best (spD_len fun ds B k e h => by obtain ⟨a, u, p, w1, h1, rfl, b, z, hg, hk⟩ := h; rfl) (fun cdv A outer s H vs Q E hr h => ?_)
  have G_Bargain_frame_by_costs : FnOk P w K mg base (L2.CX P w) 3 _ _ _ _ := okD_Bargain_frame_by_costs T
  have G_Bargain_frame_by_widths : FnOk P w K mg base (L2.CX P w) 2 _ _ _ _ := okD_Bargain_frame_by_widths T
  obtain ⟨G, ds, B, k, e, hs, hR, ⟨a, u, p, w1, h1, rfl, b, z, hg, hk⟩, hK, hX⟩ := h
  refine ⟨_, (pss_cons (ps_set (i := 1) sc_Bargain_best.nd rfl (.inl rfl) (pe_callBfun cr_root (by rfl) T.mi_isqrt (pa_cons (pe_op op_fdivG (pe_op op_mulW (pe_fld (pv 0) rfl) (pe_fld (pv 0) rfl)) (pe_fld (pv 0) rfl)) pa_nil)))
 (pss_cons (ps_set (i := 2) sc_Bargain_best.nd rfl (.inl rfl) (pe_callB (call_min2 rfl) (by rfl) T.n_min (by decide +kernel) (pa_cons (pe_callB (call_max2 rfl) (by rfl) T.n_max (by decide +kernel) (pa_cons (pv 1) (pa_cons (pe_fld (pv 0) rfl) pa_nil))) (pa_cons (pe_fld (pv 0) rfl) pa_nil))))
 (pss_cons (ps_set (i := 3) sc_Bargain_best.nd rfl (.inl rfl) (pe_op op_mulW (pe_op op_mulW (pe_fld (pv 0) rfl) (pv 2)) (pv 2)))
 (pss_cons (ps_set (i := 4) sc_Bargain_best.nd rfl (.inl rfl) (pe_callB call_abs (by rfl) T.n_abs (by decide +kernel) (pa_cons (pe_op op_sub (pv 3) (pe_op op_mulW (pe_fld (pv 0) rfl) (pe_fld (pv 0) rfl))) pa_nil)))
 (pss_cons (ps_if (PW.pt (pw_or (pt_cmpR op_le (pe_op op_mulW (pe_fld (pv 0) rfl) (pv 2)) (pe_op op_mulW (pe_op op_mulW (pe_glob (v := .int 64) (by rfl) T.gc_MOST_WIDTHS ⟨_, rfl⟩) (pe_glob (v := .int 64) (by rfl) T.gc_MOST_WIDTHS ⟨_, rfl⟩)) (pe_fld (pv 0) rfl)) (nomark _)) (pw_or1 (pt_cmpR op_le (pv 3) (pe_op op_mulW (pe_glob (v := .int 64) (by rfl) T.gc_MOST_WIDTHS ⟨_, rfl⟩) (pv 4)) (nomark _)))))
 (pss_one (ps_ret (pe_meth (pv 0) T.cl_Bargain T.M_Bargain_frame_by_widths G_Bargain_frame_by_widths (hr.mono (by decide)) T.b_Bargain_frame_by_widths .nil passL (pa_cons (pv 2) pa_nil))))
 pss_nil)
 (pss_one (ps_ret (pe_meth0 (pv 0) T.cl_Bargain T.M_Bargain_frame_by_costs G_Bargain_frame_by_costs (hr.mono (by decide)) T.b_Bargain_frame_by_costs .nil passL)))))))), run_body (ρ := [some (bgD T a u p w1 h1), none, none, none, none]) hs hR hK hX rfl ?_⟩
  have ba := z.ba
  have bu := z.bu
  have bw := z.bw
  have bh := z.bh
  have bp := z.bp
  have w0 := b.w0
  have h0 := b.h0
  have hp0 := Int.mul_pos b.h0 b.p0
  have q := fdiv_bd (n := h1 * p) w0
  have q0 : 0 ≤ (h1 * p).fdiv w1 := by
    refine Int.le_of_not_gt fun g => ?_
    have : w1 * ((h1 * p).fdiv w1 + 1) ≤ 0 := Int.mul_nonpos_of_nonneg_of_nonpos (by omega) (by omega)
    have e : w1 * ((h1 * p).fdiv w1 + 1) = w1 * (h1 * p).fdiv w1 + w1 := by grind
    omega
  have bq : Bd 12000 ((h1 * p).fdiv w1) := (by apply Bd.mono; (repeat (first | assumption | exact Bd.lit 64 (by decide +kernel) | exact Bd.lit 2000 (by decide +kernel) | apply Bd.neg | apply Bd.fdiv | apply Bd.mul | apply Bd.add2 | apply Bd.sub2)); decide)
  refine ws_seq (ws_set (we_rootB (wa_cons (we_op (we_op (we_fld (we_var rfl ⟨_, _, _, _, rfl, T.cl_Bargain, T.na_Bargain_high, rfl, (we_fld (we_var rfl ⟨_, _, _, _, rfl, T.cl_Bargain, T.na_Bargain_product, rfl, (ro_i (cmc (by apply Bd.mono; (repeat (first | assumption | exact Bd.lit 64 (by decide +kernel) | exact Bd.lit 2000 (by decide +kernel) | apply Bd.neg | apply Bd.fdiv | apply Bd.mul | apply Bd.add2 | apply Bd.sub2)); decide) (by apply Bd.mono; (repeat (first | assumption | exact Bd.lit 64 (by decide +kernel) | exact Bd.lit 2000 (by decide +kernel) | apply Bd.neg | apply Bd.fdiv | apply Bd.mul | apply Bd.add2 | apply Bd.sub2)); decide)) (we_fld (we_var rfl ⟨_, _, _, _, rfl, T.cl_Bargain, T.na_Bargain_wide, rfl, (ro_i ⟨by omega, lg (by apply Bd.mono; (repeat (first | assumption | exact Bd.lit 64 (by decide +kernel) | exact Bd.lit 2000 (by decide +kernel) | apply Bd.neg | apply Bd.fdiv | apply Bd.mul | apply Bd.add2 | apply Bd.sub2)); decide)⟩ (wa_nil ⟨_, rfl, q0, bq, fun r hr => ?_⟩))⟩)))⟩))⟩)))))))
  obtain ⟨r0, r1, r2⟩ := hr
  refine ws_seq (ws_set (we_min2 (wa_cons (we_max2 (wa_cons (we_var rfl (wa_cons (we_fld (we_var rfl ⟨_, _, _, _, rfl, T.cl_Bargain, T.na_Bargain_narrowest, rfl, (wa_nil ⟨_, _, rfl, (wa_cons (we_fld (we_var rfl ⟨_, _, _, _, rfl, T.cl_Bargain, T.na_Bargain_widest, rfl, (wa_nil ⟨_, _, rfl, ?_⟩)⟩)))⟩)⟩)))))))))
  rw [mx_max, mn_min]
  have s0 := (stt_in (a := a) (u := u) (P := p) (w := w1) (h := h1) (r := r)).1
  have s1 := (stt_in (a := a) (u := u) (P := p) (w := w1) (h := h1) (r := r)).2
  have su : ∀ W, stt a u p w1 h1 r < W → W ≤ wid a u p → h1 * p ≤ w1 * W * W := fun W g1 g2 => stt_up w0 r0 (by
    have m := Int.mul_le_mul_of_nonneg_left (show (h1 * p).fdiv w1 + 1 ≤ (r + 1) * (r + 1) by omega) (Int.le_of_lt w0)
    have e : w1 * ((h1 * p).fdiv w1 + 1) = w1 * (h1 * p).fdiv w1 + w1 := by grind
    omega) g1 g2
  have sd : ∀ W, nar a ≤ W → W < stt a u p w1 h1 r → w1 * W * W ≤ h1 * p := fun W g1 g2 => stt_down w0 (by
    have m := Int.mul_le_mul_of_nonneg_left r1 (Int.le_of_lt w0)
    omega) (by unfold nar at g1; omega) g2 g1
  rw [show min (max r (nar a)) (wid a u p) = stt a u p w1 h1 r from rfl]
  have n0 : 1 ≤ nar a := by unfold nar; omega
  have bs := z.bw2 b (by omega) s1
  generalize stt a u p w1 h1 r = s at *
  refine ws_seq (ws_set (we_op (we_op (we_fld (we_var rfl ⟨_, _, _, _, rfl, T.cl_Bargain, T.na_Bargain_wide, rfl, (we_var rfl (ro_i (cmc (by apply Bd.mono; (repeat (first | assumption | exact Bd.lit 64 (by decide +kernel) | exact Bd.lit 2000 (by decide +kernel) | apply Bd.neg | apply Bd.fdiv | apply Bd.mul | apply Bd.add2 | apply Bd.sub2)); decide) (by apply Bd.mono; (repeat (first | assumption | exact Bd.lit 64 (by decide +kernel) | exact Bd.lit 2000 (by decide +kernel) | apply Bd.neg | apply Bd.fdiv | apply Bd.mul | apply Bd.add2 | apply Bd.sub2)); decide)) (we_var rfl (ro_i (cmc (by apply Bd.mono; (repeat (first | assumption | exact Bd.lit 64 (by decide +kernel) | exact Bd.lit 2000 (by decide +kernel) | apply Bd.neg | apply Bd.fdiv | apply Bd.mul | apply Bd.add2 | apply Bd.sub2)); decide) (by apply Bd.mono; (repeat (first | assumption | exact Bd.lit 64 (by decide +kernel) | exact Bd.lit 2000 (by decide +kernel) | apply Bd.neg | apply Bd.fdiv | apply Bd.mul | apply Bd.add2 | apply Bd.sub2)); decide)) ?_))))⟩)))))
  refine ws_seq (ws_set (we_abs (wa_cons (we_op (we_var rfl (we_op (we_fld (we_var rfl ⟨_, _, _, _, rfl, T.cl_Bargain, T.na_Bargain_high, rfl, (we_fld (we_var rfl ⟨_, _, _, _, rfl, T.cl_Bargain, T.na_Bargain_product, rfl, (ro_i (cmc (by apply Bd.mono; (repeat (first | assumption | exact Bd.lit 64 (by decide +kernel) | exact Bd.lit 2000 (by decide +kernel) | apply Bd.neg | apply Bd.fdiv | apply Bd.mul | apply Bd.add2 | apply Bd.sub2)); decide) (by apply Bd.mono; (repeat (first | assumption | exact Bd.lit 64 (by decide +kernel) | exact Bd.lit 2000 (by decide +kernel) | apply Bd.neg | apply Bd.fdiv | apply Bd.mul | apply Bd.add2 | apply Bd.sub2)); decide)) (ro_i0 (wa_nil ⟨_, rfl, ?_⟩)))⟩))⟩))))))))
  have br : Bd 2000 (w1 * s * s - h1 * p) := (by apply Bd.mono; (repeat (first | assumption | exact Bd.lit 64 (by decide +kernel) | exact Bd.lit 2000 (by decide +kernel) | apply Bd.neg | apply Bd.fdiv | apply Bd.mul | apply Bd.add2 | apply Bd.sub2)); decide)
  have br2 : Bd 2000 (if w1 * s * s - h1 * p < 0 then -(w1 * s * s - h1 * p) else w1 * s * s - h1 * p) := by unfold Bd at *; split <;> omega
  refine ws_seq (ws_if (wt_or (wt_test (we_op (we_op (we_fld (we_var rfl ⟨_, _, _, _, rfl, T.cl_Bargain, T.na_Bargain_high, rfl, (we_var rfl (ro_i (cmc (by apply Bd.mono; (repeat (first | assumption | exact Bd.lit 64 (by decide +kernel) | exact Bd.lit 2000 (by decide +kernel) | apply Bd.neg | apply Bd.fdiv | apply Bd.mul | apply Bd.add2 | apply Bd.sub2)); decide) (by apply Bd.mono; (repeat (first | assumption | exact Bd.lit 64 (by decide +kernel) | exact Bd.lit 2000 (by decide +kernel) | apply Bd.neg | apply Bd.fdiv | apply Bd.mul | apply Bd.add2 | apply Bd.sub2)); decide)) (we_op (we_op (we_int (we_int (ro_i (cmc (by apply Bd.mono; (repeat (first | assumption | exact Bd.lit 64 (by decide +kernel) | exact Bd.lit 2000 (by decide +kernel) | apply Bd.neg | apply Bd.fdiv | apply Bd.mul | apply Bd.add2 | apply Bd.sub2)); decide) (by apply Bd.mono; (repeat (first | assumption | exact Bd.lit 64 (by decide +kernel) | exact Bd.lit 2000 (by decide +kernel) | apply Bd.neg | apply Bd.fdiv | apply Bd.mul | apply Bd.add2 | apply Bd.sub2)); decide)) (we_fld (we_var rfl ⟨_, _, _, _, rfl, T.cl_Bargain, T.na_Bargain_wide, rfl, (ro_i (cmc (by apply Bd.mono; (repeat (first | assumption | exact Bd.lit 64 (by decide +kernel) | exact Bd.lit 2000 (by decide +kernel) | apply Bd.neg | apply Bd.fdiv | apply Bd.mul | apply Bd.add2 | apply Bd.sub2)); decide) (by apply Bd.mono; (repeat (first | assumption | exact Bd.lit 64 (by decide +kernel) | exact Bd.lit 2000 (by decide +kernel) | apply Bd.neg | apply Bd.fdiv | apply Bd.mul | apply Bd.add2 | apply Bd.sub2)); decide)) (ro_b0 ⟨_, rfl, ⟨fun hc1 => ⟨fun _ => ?_, fun h => absurd h (by decide)⟩, fun hc2 => (wt_test (we_op (we_var rfl (we_op (we_int (we_var rfl (ro_i (cmc (by apply Bd.mono; (repeat (first | assumption | exact Bd.lit 64 (by decide +kernel) | exact Bd.lit 2000 (by decide +kernel) | apply Bd.neg | apply Bd.fdiv | apply Bd.mul | apply Bd.add2 | apply Bd.sub2)); decide) (by apply Bd.mono; (repeat (first | assumption | exact Bd.lit 64 (by decide +kernel) | exact Bd.lit 2000 (by decide +kernel) | apply Bd.neg | apply Bd.fdiv | apply Bd.mul | apply Bd.add2 | apply Bd.sub2)); decide)) (ro_b0 ⟨_, rfl, ⟨fun hc3 => ?_, fun hc4 => ?_⟩⟩))))))))⟩⟩))⟩)))))))))⟩)))))))
  · refine (ws_ret (we_meth (we_var rfl ⟨_, _, rfl, by decide +kernel, (wa_cons (we_var rfl (wa_nil ⟨a, u, p, w1, h1, _, rfl, b, z, s0, s1, su, sd, hk⟩)))⟩)))
    
  · refine (ws_ret (we_meth (we_var rfl ⟨_, _, rfl, by decide +kernel, (wa_cons (we_var rfl (wa_nil ⟨a, u, p, w1, h1, _, rfl, b, z, s0, s1, su, sd, hk⟩)))⟩)))
    
  · refine ws_next ?_
    refine (ws_ret (we_meth (we_var rfl ⟨_, _, rfl, by decide +kernel, (wa_nil ⟨a, u, p, w1, h1, rfl, b, z, hg, hk⟩)⟩)))
    
def pr_cheapest_frame (T : Tx K mg) : Pr := fun ds B k e => ∃ a u p w h : Int, ds = [.int a, .int u, .int p, .int w, .int h] ∧ 0 ≤ a ∧ 0 ≤ u ∧ 0 < w ∧ 0 < h ∧ BgS a u p w h ∧ ∀ W H, CF a u p w h W H → k (t2 W H) B
theorem okD_cheapest_frame (T : Tx K mg) : FnOk P w K mg base (L2.CX P w) 5 T.a_cheapest_frame T.d_cheapest_frame P_cheapest_frame (spD K (pr_cheapest_frame T)) := by
  refine T.F_cheapest_frame.okX sc_cheapest_frame (spD_len fun ds B k e h => by obtain ⟨a, u, p, w1, h1, rfl, a0, u0, w0, h0, z, hk⟩ := h; rfl) (fun cdv A outer s H vs Q E hr h => ?_)
  have G_Bargain_best : FnOk P w K mg base (L2.CX P w) 4 _ _ _ _ := okD_Bargain_best T
  have G_Bargain_init : FnOk P w K mg base (L2.CX P w) 3 _ _ _ _ := okD_Bargain_init T
  obtain ⟨G, ds, B, k, e, hs, hR, ⟨a, u, p, w1, h1, rfl, a0, u0, w0, h0, z, hk⟩, hK, hX⟩ := h
  refine ⟨_, (pss_cons (ps_if (pt_cmpR op_ge (pe_op op_mulW (pv 0) (pv 1)) (pv 2) (nomark _))
 (pss_one (ps_ret (pe_tup (pa_cons (pv 0) (pa_cons (pv 1) pa_nil)))))
 pss_nil)
 (pss_cons (ps_if (pt_cmpR op_lt (pv 3) (pv 4) (nomark _))
 (pss_cons (ps_asg (pe_meth0 (pe_make T.M_Bargain G_Bargain_init (hr.mono (by decide)) (by rfl) T.g_C_Bargain T.b_Bargain_init .nil passL (pa_cons (pv 1) (pa_cons (pv 0) (pa_cons (pv 2) (pa_cons (pv 4) (pa_cons (pv 3) pa_nil)))))) T.cl_Bargain T.M_Bargain_best G_Bargain_best (hr.mono (by decide)) T.b_Bargain_best .nil passL) (pg_tup rfl (pgs_cons (pg_name (i := 5) sc_cheapest_frame.nd rfl (.inl rfl)) (pgs_cons (pg_name (i := 6) sc_cheapest_frame.nd rfl (.inl rfl)) pgs_nil))))
 (pss_one (ps_ret (pe_tup (pa_cons (pv 6) (pa_cons (pv 5) pa_nil))))))
 pss_nil)
 (pss_one (ps_ret (pe_meth0 (pe_make T.M_Bargain G_Bargain_init (hr.mono (by decide)) (by rfl) T.g_C_Bargain T.b_Bargain_init .nil passL (pa_cons (pv 0) (pa_cons (pv 1) (pa_cons (pv 2) (pa_cons (pv 3) (pa_cons (pv 4) pa_nil)))))) T.cl_Bargain T.M_Bargain_best G_Bargain_best (hr.mono (by decide)) T.b_Bargain_best .nil passL))))), run_body (ρ := [some (.int a), some (.int u), some (.int p), some (.int w1), some (.int h1), none, none]) hs hR hK hX rfl ?_⟩
  have ba := z.ba
  have bu := z.bu
  have zz : BgS u a p h1 w1 := ⟨z.bu, z.ba, z.bp, z.bh, z.bw⟩
  refine ws_seq (ws_if (wt_test (we_op (we_op (we_var rfl (we_var rfl (ro_i (cmc (by apply Bd.mono; (repeat (first | assumption | exact Bd.lit 64 (by decide +kernel) | exact Bd.lit 2000 (by decide +kernel) | apply Bd.neg | apply Bd.fdiv | apply Bd.mul | apply Bd.add2 | apply Bd.sub2)); decide) (by apply Bd.mono; (repeat (first | assumption | exact Bd.lit 64 (by decide +kernel) | exact Bd.lit 2000 (by decide +kernel) | apply Bd.neg | apply Bd.fdiv | apply Bd.mul | apply Bd.add2 | apply Bd.sub2)); decide)) (we_var rfl (ro_b0 ⟨_, rfl, ⟨fun hc1 => ?_, fun hc2 => ?_⟩⟩)))))))))
  · refine (ws_ret (we_tup (wa_cons (we_var rfl (wa_cons (we_var rfl (wa_nil ⟨Nat.le_of_ble_eq_true rfl, ?_⟩)))))))
    exact hk _ _ (CF.corner (by omega) (by omega) (of_decide_eq_true hc1))
  · refine ws_next ?_
    refine ws_seq (ws_if (wt_test (we_op (we_var rfl (we_var rfl (ro_b0 ⟨_, rfl, ⟨fun hc5 => ?_, fun hc6 => ?_⟩⟩))))))
    · refine ws_seq (ws_asg (we_meth (we_make (wa_cons (we_var rfl (wa_cons (we_var rfl (wa_cons (we_var rfl (wa_cons (we_var rfl (wa_cons (we_var rfl (wa_nil ⟨_, _, _, _, _, rfl, (by refine ⟨by assumption, by assumption, ?_, by assumption, by assumption⟩; have := of_decide_eq_false hc2; first | omega | (rw [Int.mul_comm]; omega)), (by first | exact z | exact zz), fun w2 h2 g g0 ew eh hg b2 z2 => ⟨_, _, rfl, by decide +kernel, (wa_nil ⟨_, _, _, _, _, rfl, b2, z2, hg, fun W H cf => (wg_tup rfl (wgs_cons (wg_name (wgs_cons (wg_name (wgs_nil ?_))))))⟩)⟩⟩))))))))))))))
      refine (ws_ret (we_tup (wa_cons (we_var rfl (wa_cons (we_var rfl (wa_nil ⟨Nat.le_of_ble_eq_true rfl, ?_⟩)))))))
      exact hk _ _ (CF.swap (by rw [ew, eh]; exact cf.scale g0))
    · refine ws_next ?_
      refine (ws_ret (we_meth (we_make (wa_cons (we_var rfl (wa_cons (we_var rfl (wa_cons (we_var rfl (wa_cons (we_var rfl (wa_cons (we_var rfl (wa_nil ⟨_, _, _, _, _, rfl, (by refine ⟨by assumption, by assumption, ?_, by assumption, by assumption⟩; have := of_decide_eq_false hc2; first | omega | (rw [Int.mul_comm]; omega)), (by first | exact z | exact zz), fun w2 h2 g g0 ew eh hg b2 z2 => ⟨_, _, rfl, by decide +kernel, (wa_nil ⟨_, _, _, _, _, rfl, b2, z2, hg, fun W H cf => ?_⟩)⟩⟩))))))))))))))
      exact hk _ _ (by rw [ew, eh]; exact cf.scale g0)
end
end AW

set_option linter.all false
set_option maxRecDepth 100000
set_option maxHeartbeats 8000000
namespace AW
open PySem PySem.Spec PyProof.Rows L2 Fewest
variable [Tbs]
def prcR (pe pn pw ps : Int) (qs : List Rn) : Int := pe * cnt "e" qs + pn * cnt "n" qs + pw * cnt "w" qs + ps * cnt "s" qs
def prdF (p : T3) : Int := max (p.2.2 + max 0 (-(p.1 * p.2.1))) (max 0 (p.1 * p.2.1) - p.2.2)
theorem ab_mulP (x y : Int) : ab x * ab y = ab (x * y) := by unfold ab; rw [Int.natAbs_mul]; push_cast; rfl
theorem fr_box {p : T3} {W H : Int} : Fr (ab p.1) (ab p.2.1) (prdF p) W H ↔ ab p.1 ≤ W ∧ ab p.2.1 ≤ H ∧ ab (2 * p.2.2 - p.1 * p.2.1) + ab p.1 * ab p.2.1 ≤ 2 * (W * H) := by
  unfold Fr
  rw [ab_mulP, lot_in]
  unfold prdF
  generalize W * H = m
  generalize p.1 * p.2.1 = z
  omega
def lpF (pe pn pw ps : Int) (p : T3) (W H : Int) : Int := ab p.1 * (if p.1 < 0 then pw else pe) + ab p.2.1 * (if p.2.1 < 0 then ps else pn) + (pe + pw) * (W - ab p.1) + (pn + ps) * (H - ab p.2.1)
theorem lp_box {E W : Int} (a b : Int) : ab (E - W) * (if E - W < 0 then b else a) + (a + b) * (max E W - ab (E - W)) = a * E + b * W := by
  by_cases h : E - W < 0
  · rw [if_pos h, show ab (E - W) = W - E by unfold ab; omega, show max E W = W by omega]; grind
  · rw [if_neg h, show ab (E - W) = E - W by unfold ab; omega, show max E W = E by omega]; grind
theorem lp_of {pe pn pw ps E N Wt S : Int} (a : Int) : lpF pe pn pw ps (E - Wt, N - S, a) (max E Wt) (max N S) = pe * E + pn * N + pw * Wt + ps * S := by
  have h1 := lp_box (E := E) (W := Wt) pe pw
  have h2 := lp_box (E := N) (W := S) pn ps
  unfold lpF
  show ab (E - Wt) * (if E - Wt < 0 then pw else pe) + ab (N - S) * (if N - S < 0 then ps else pn) + (pe + pw) * (max E Wt - ab (E - Wt)) + (pn + ps) * (max N S - ab (N - S)) = _
  omega
theorem sides_of {x W : Int} (h : ab x ≤ W) : ∃ E Wt : Int, 0 ≤ E ∧ 0 ≤ Wt ∧ x = E - Wt ∧ W = max E Wt := by
  by_cases q : x < 0
  · exact ⟨W - ab x, W, by omega, by unfold ab at h; omega, by unfold ab at *; omega, by unfold ab at *; omega⟩
  · exact ⟨W, W - ab x, by unfold ab at h; omega, by omega, by unfold ab at *; omega, by unfold ab at *; omega⟩
theorem frame_prc {pe pn pw ps : Int} {p : T3} {W H : Int} (h1 : ab p.1 ≤ W) (h2 : ab p.2.1 ≤ H) : prcR pe pn pw ps (frameF p W H) = lpF pe pn pw ps p W H := by
  obtain ⟨x, y, a⟩ := p
  obtain ⟨E, Wt, e0, w0, rfl, rfl⟩ := sides_of h1
  obtain ⟨N, S, n0, s0, rfl, rfl⟩ := sides_of h2
  obtain ⟨c1, c2, c3, c4⟩ := frame_cnt (a := a) e0 n0 w0 s0
  unfold prcR
  rw [lp_of]
  show pe * cnt "e" (frameF (E - Wt, N - S, a) (max E Wt) (max N S)) + pn * cnt "n" (frameF (E - Wt, N - S, a) (max E Wt) (max N S)) + pw * cnt "w" (frameF (E - Wt, N - S, a) (max E Wt) (max N S)) + ps * cnt "s" (frameF (E - Wt, N - S, a) (max E Wt) (max N S)) = _
  rw [c1, c2, c3, c4]
abbrev CFp (pe pn pw ps : Int) (p : T3) (W H : Int) : Prop := CF (ab p.1) (ab p.2.1) (prdF p) (pe + pw) (pn + ps) W H
theorem lp_low {pe pn pw ps : Int} {p : T3} {W H : Int} {qs : List Rn} (cf : CFp pe pn pw ps p W H) (hg : GoodR qs) (hp : posF qs = p) : lpF pe pn pw ps p W H ≤ prcR pe pn pw ps qs := by
  subst hp
  obtain ⟨c1, c2⟩ := cnt_pos hg
  have bx := box_walk hg
  have f : Fr (ab (posF qs).1) (ab (posF qs).2.1) (prdF (posF qs)) (lotP qs) (lotQ qs) := fr_box.mpr bx
  have l := cf.le _ _ f
  have e : lpF pe pn pw ps (posF qs) (lotP qs) (lotQ qs) = prcR pe pn pw ps qs := by
    have := lp_of (pe := pe) (pn := pn) (pw := pw) (ps := ps) (E := cnt "e" qs) (N := cnt "n" qs) (Wt := cnt "w" qs) (S := cnt "s" qs) (posF qs).2.2
    rw [← c1, ← c2] at this
    exact this
  rw [← e]
  unfold lpF
  rw [Int.mul_sub, Int.mul_sub, Int.mul_sub, Int.mul_sub]
  omega
structure IsL (pe pn pw ps : Int) (p : T3) (v : Int) : Prop where
  ex : ∃ qs, GoodR qs ∧ posF qs = p ∧ prcR pe pn pw ps qs = v
  le : ∀ qs, GoodR qs → posF qs = p → v ≤ prcR pe pn pw ps qs
theorem cf_isL {pe pn pw ps : Int} {p : T3} {W H : Int} (cf : CFp pe pn pw ps p W H) : IsL pe pn pw ps p (lpF pe pn pw ps p W H) := by
  obtain ⟨b1, b2, b3⟩ := fr_box.mp cf.fr
  obtain ⟨g, _, q, _⟩ := frame_ok b1 b2 b3
  exact ⟨⟨_, g, q, frame_prc b1 b2⟩, fun qs => lp_low cf⟩
structure PrS (pe pn pw ps : Int) : Prop where
  e : 1 ≤ pe ∧ pe ≤ 1000
  n : 1 ≤ pn ∧ pn ≤ 1000
  w : 1 ≤ pw ∧ pw ≤ 1000
  s : 1 ≤ ps ∧ ps ≤ 1000
theorem prc_app (pe pn pw ps : Int) (xs ys : List Rn) : prcR pe pn pw ps (xs ++ ys) = prcR pe pn pw ps xs + prcR pe pn pw ps ys := by
  unfold prcR
  simp only [cnt_append, Int.mul_add]
  omega
theorem prc_nn {pe pn pw ps : Int} (z : PrS pe pn pw ps) {qs : List Rn} (g : GoodR qs) : 0 ≤ prcR pe pn pw ps qs := by
  have h1 := Int.mul_nonneg (show 0 ≤ pe by have := z.e; omega) (cnt_nn (c := "e") g)
  have h2 := Int.mul_nonneg (show 0 ≤ pn by have := z.n; omega) (cnt_nn (c := "n") g)
  have h3 := Int.mul_nonneg (show 0 ≤ pw by have := z.w; omega) (cnt_nn (c := "w") g)
  have h4 := Int.mul_nonneg (show 0 ≤ ps by have := z.s; omega) (cnt_nn (c := "s") g)
  unfold prcR
  omega
def pl4 (pe pn pw ps : Int) (c : Str) : Int := if c = "e" then pe else if c = "n" then pn else if c = "w" then pw else ps
theorem prc_one {pe pn pw ps : Int} {c : Str} (t : Int) (hc : c ∈ chS "enws") : prcR pe pn pw ps [(c, t)] = pl4 pe pn pw ps c * t := by
  obtain ⟨m1, m2, m3, m4, m5, m6⟩ := str_ne
  unfold prcR pl4
  simp only [cnt_cons, cnt_nil]
  rcases mem_enws hc with rfl | rfl | rfl | rfl
  all_goals simp [m1, m2, m3, m4, m5, m6, Ne.symm m1, Ne.symm m2, Ne.symm m3, Ne.symm m4, Ne.symm m5, Ne.symm m6]
theorem pl4_pos {pe pn pw ps : Int} (z : PrS pe pn pw ps) (c : Str) : 1 ≤ pl4 pe pn pw ps c ∧ pl4 pe pn pw ps c ≤ 1000 := by
  have := z.e; have := z.n; have := z.w; have := z.s
  unfold pl4
  split
  · omega
  · split
    · omega
    · split <;> omega
theorem prc_sum {pe pn pw ps : Int} : ∀ {qs : List Rn}, GoodR qs → (qs.map fun q => pl4 pe pn pw ps q.1 * q.2).sum = prcR pe pn pw ps qs
  | [], _ => by simp [prcR, cnt_nil]
  | q :: qs, g => by
    rw [List.map_cons, List.sum_cons, prc_sum g.tail, ← prc_one q.2 g.head.1, ← prc_app]
    rfl
theorem IsL.home {pe pn pw ps v : Int} (z : PrS pe pn pw ps) (h : IsL pe pn pw ps (0, 0, 0) v) : v = 0 := by
  obtain ⟨⟨qs, g, e, rfl⟩, l⟩ := h
  have := prc_nn z g
  have := l [] (fun _ q => nomatch q) rfl
  have e2 : prcR pe pn pw ps [] = 0 := by simp [prcR, cnt_nil]
  omega
theorem IsL.step {pe pn pw ps v v' : Int} {p : T3} {c : Str} (hc : c ∈ chS "enws") (h : IsL pe pn pw ps p v) (h' : IsL pe pn pw ps (cStep p (c, 1)) v') : v' ≤ v + pl4 pe pn pw ps c := by
  obtain ⟨⟨qs, g, rfl, rfl⟩, _⟩ := h
  have := h'.le (qs ++ [(c, 1)]) (fun q hq => by
    rcases List.mem_append.mp hq with x | x
    · exact g q x
    · rw [List.mem_singleton] at x; subst x; exact ⟨hc, show (0 : Int) ≤ 1 by decide⟩) (posF_snoc _ _)
  rw [prc_app, prc_one 1 hc, Int.mul_one] at this
  exact this
theorem cStep_inj {p q : T3} {r : Rn} (h : cStep p r = cStep q r) : p = q := by
  obtain ⟨a, b, c⟩ := p
  obtain ⟨a', b', c'⟩ := q
  unfold cStep at h
  injection h with h1 h2
  injection h2 with h2 h3
  have e1 : a = a' := by simpa using h1
  subst e1
  have e2 : b = b' := by simpa using h2
  have e3 : c = c' := by simpa using h3
  subst e2 e3
  rfl
theorem IsL.last {pe pn pw ps v : Int} {p : T3} (z : PrS pe pn pw ps) (h : IsL pe pn pw ps p v) (ne : p ≠ (0, 0, 0)) : 0 < v ∧ ∃ c, c ∈ chS "enws" ∧ ∀ q v', cStep q (c, 1) = p → IsL pe pn pw ps q v' → v = v' + pl4 pe pn pw ps c := by
  obtain ⟨⟨qs, g, e, ev⟩, l⟩ := h
  obtain ⟨up, uc⟩ := un_pos g
  have ug := un_good g
  have ep : prcR pe pn pw ps (unR (expR qs)) = v := by unfold prcR at *; rw [uc, uc, uc, uc]; exact ev
  rcases List.eq_nil_or_concat (expR qs) with hn | ⟨l', c, hl⟩
  · rw [hn] at up
    exact absurd (e.symm.trans up.symm) ne
  · rw [List.concat_eq_append] at hl
    rw [hl, show unR (l' ++ [c]) = unR l' ++ [(c, 1)] by unfold unR; rw [List.map_append]; rfl] at up ug ep
    have hc : c ∈ chS "enws" := (ug (c, 1) (List.mem_append_right _ (List.mem_singleton.mpr rfl))).1
    have ug' : GoodR (unR l') := fun q hq => ug q (List.mem_append_left _ hq)
    rw [posF_snoc, e] at up
    rw [prc_app, prc_one 1 hc, Int.mul_one] at ep
    have n1 := prc_nn z ug'
    have n2 := (pl4_pos z c).1
    refine ⟨by omega, c, hc, fun q v' hq h' => ?_⟩
    have eq : posF (unR l') = q := cStep_inj (up.trans hq.symm)
    have l1 := h'.le _ ug' eq
    have l2 := IsL.step (v' := v) hc h' (by rw [hq]; exact ⟨⟨qs, g, e, ev⟩, l⟩)
    omega
end AW

set_option linter.all false
set_option maxRecDepth 100000
set_option maxHeartbeats 8000000
namespace AW
open PySem PySem.Spec PyProof.Rows L2 Fewest
variable [Tbs]
section
variable {P : Program} {w : World} {K : PySem.W.Frag} {mg : Str → Option Value} {base : Heap} [CDict K w "DIRECTIONS" L_DIRECTIONS]
abbrev pcN : List Str := ["east", "north", "west", "south"]
abbrev pcD (T : Tx K mg) (pe pn pw ps : Int) : D := .ins T.C_Prices pcN [.int pe, .int pn, .int pw, .int ps]
def pr_Prices_init (T : Tx K mg) : List D → Int → (List D → Int → Prop) → EW → Prop := fun ds B k e => ∃ pe pn pw ps : Int, ds = [.int pe, .int pn, .int pw, .int ps] ∧ PrS pe pn pw ps ∧ k ds B
theorem okD_Prices_init (T : Tx K mg) : FnOk P w K mg base (L2.CX P w) 4 T.a_Prices_init T.d_Prices_init P_Prices_init (spI K T.C_Prices pcN (pr_Prices_init T)) := by
  have G_check_from : FnOk P w K mg base (L2.CX P w) 3 _ _ _ _ := okD_check_from T
  have G_BadNumber_init : FnOk P w K mg base (L2.CX P w) 1 _ _ _ _ := ok_BadNumber_init T
  refine T.F_Prices_init.okX sc_Prices_init (fun vs H Q E h => ?_) (fun cdv A outer s H vs Q E hr h => ?_)
  · obtain ⟨p, dx, us, G, ds, B, k, e, rfl, hp, gp, gdx, ne, hd, hs, hR, ⟨pe, pn, pw, ps, rfl, _⟩, hK, hX⟩ := h
    rw [List.length_cons, ← hR.length]
    rfl
  · obtain ⟨p, dx, us, G, ds, B, k, e, rfl, hp, gp, gdx, ne, hd, hs, hR, ⟨pe, pn, pw, ps, rfl, z, hk⟩, hK, hX⟩ := h
    have n1 : ∀ q ∈ ([("east" : Str)] : List Str), q ≠ ("north" : Str) := by decide +kernel
    have n2 : ∀ q ∈ ([("east" : Str), "north"] : List Str), q ≠ ("west" : Str) := by decide +kernel
    have n3 : ∀ q ∈ ([("east" : Str), "north", "west"] : List Str), q ≠ ("south" : Str) := by decide +kernel
    refine ⟨_, (pss_cons (ps_for (passes_of rfl) rfl (pi_tup (pe_tup (pa_cons (pv 1) (pa_cons (pv 2) (pa_cons (pv 3) (pa_cons (pv 4) pa_nil)))))) (pg_name (i := 5) sc_Prices_init.nd rfl (.inl rfl))
 (pss_cons (ps_expr (pe_call G_check_from (hr.mono (by decide)) (by rfl) T.g_check_from T.F_check_from.kp T.b_check_from .nil passL (pa_cons (pv 5) (pa_cons pe_int pa_nil))))
 (pss_one (ps_if (pt_cmpR op_gt (pv 5) (pe_glob (v := .int 1000) (by rfl) T.gc_HIGHEST_PRICE ⟨_, rfl⟩) (nomark _))
 (pss_one (ps_raise rfl (takes_of rfl rfl rfl rfl) (pmk_oex T.X_BadNumber T.ei_BadNumber T.et_BadNumber G_BadNumber_init (hr.mono (by decide)) T.b_BadNumber_init .nil passL rfl T.g_C_BadNumber (by exact (pa_cons (pv 5) pa_nil)))))
 pss_nil))))
 (pss_cons (ps_fld (pv 0) (pv 1) rfl)
 (pss_cons (ps_fld (pv 0) (pv 2) rfl)
 (pss_cons (ps_fld (pv 0) (pv 3) rfl)
 (pss_one (ps_fld (pv 0) (pv 4) rfl)))))), run_init (kf := fun fs O' B' => fs.map (·.1) = pcN ∧ k (fs.map (·.2)) B') hp gp hs hR rfl (fun fs us O' B' G' H' hf ex g2 h2 hr2 ow2 hpn => ?_) ?_⟩
    · obtain ⟨e1, hf⟩ := hf
      rw [e1] at h2
      refine hK _ us B' G' H' hf ex.le ex.sub (fun a o z n nb nt => ex.fr a o (by rw [hide1 nb]; exact z) n nt) g2 h2 ?_ hr2
      have h3 := hr2.length
      have h4 := congrArg List.length e1
      rw [List.length_map] at h3 h4
      show 4 = _
      exact h4.symm.trans h3
    · refine wx_seq <| wx_ws <| ws_for_tup <| we_tup <| wa_cons <| we_var rfl <| wa_cons <| we_var rfl <| wa_cons <| we_var rfl <| wa_cons <| we_var rfl <| wa_nil ⟨by show 4 ≤ sizeLine; decide, _, rfl, fun i ρ' B' => ∃ o, ρ' = [some (.val (.ref p)), some (.int pe), some (.int pn), some (.int pw), some (.int ps), o] ∧ B' = B, ⟨none, rfl, rfl⟩, fun i x ρ' B' hi hI => ?_, fun ρ' B' hI => ?_⟩
      · obtain ⟨o, rfl, rfl⟩ := hI
        have hx : ∃ v : Int, x = .int v ∧ 1 ≤ v ∧ v ≤ 1000 := by
          have := List.mem_of_getElem? hi
          simp only [List.mem_cons, List.not_mem_nil, or_false] at this
          rcases this with rfl | rfl | rfl | rfl
          · exact ⟨_, rfl, z.e⟩
          · exact ⟨_, rfl, z.n⟩
          · exact ⟨_, rfl, z.w⟩
          · exact ⟨_, rfl, z.s⟩
        obtain ⟨v, rfl, v0, v1⟩ := hx
        refine wg_name <| ws_seq <| ws_drop <| we_call <| wa_cons <| we_var rfl <| wa_cons <| we_int <| wa_nil ⟨_, _, rfl, .inl ⟨v, rfl, v0, ?_⟩⟩
        exact ws_if <| wt_test <| we_op <| we_var rfl <| we_int <| ro_b0 ⟨_, rfl, (fun h => absurd (of_decide_eq_true h) (by omega)), (fun _ => ws_next ⟨_, rfl, rfl⟩)⟩
      · obtain ⟨o, rfl, rfl⟩ := hI
        refine wx_seq <| wx_fldS (i := 0) (C := T.C_Prices) (dx := dx) rfl <| wew_we <| we_var rfl ⟨0, [], rfl, T.cl_Prices, T.na_Prices_east, by decide, (fun q hq => nomatch hq), ?_⟩
        refine wx_seq <| wx_fldS (i := 0) (C := T.C_Prices) (dx := dx) rfl <| wew_we <| we_var rfl ⟨0, _, rfl, T.cl_Prices, T.na_Prices_north, by simp, n1, ?_⟩
        refine wx_seq <| wx_fldS (i := 0) (C := T.C_Prices) (dx := dx) rfl <| wew_we <| we_var rfl ⟨0, _, rfl, T.cl_Prices, T.na_Prices_west, by simp, n2, ?_⟩
        refine wx_fldS (i := 0) (C := T.C_Prices) (dx := dx) rfl <| wew_we <| we_var rfl ⟨0, _, rfl, T.cl_Prices, T.na_Prices_south, by simp, n3, 0, _, rfl, rfl, ?_⟩
        exact hk
theorem ab_ifP (i : Int) : (if i < 0 then -i else i) = ab i := by unfold ab; split <;> omega
theorem ab_nnP (i : Int) : 0 ≤ ab i := by unfold ab; omega
structure SzP' (p : T3) : Prop where
  x : Bd 110 p.1
  y : Bd 110 p.2.1
  a : Bd 230 p.2.2
theorem SzP'.bg {pe pn pw ps : Int} (z : PrS pe pn pw ps) {p : T3} (s : SzP' p) : BgS (ab p.1) (ab p.2.1) (prdF p) (pe + pw) (pn + ps) := by
  refine ⟨s.x.ab.mono (by decide), s.y.ab.mono (by decide), ?_, ?_, ?_⟩
  · have h1 : Bd 298 (p.1 * p.2.1) := (s.x.mul s.y).mono (by decide)
    have h2 : Bd 298 p.2.2 := s.a.mono (by decide)
    have e : (2 : Nat) ^ 300 = 4 * 2 ^ 298 := by rw [show 300 = 298 + 2 from rfl, Nat.pow_add]; omega
    unfold prdF
    unfold Bd at *
    omega
  · have := z.e; have := z.w; unfold Bd; omega
  · have := z.n; have := z.s; unfold Bd; omega
theorem cfp_bd {pe pn pw ps : Int} (z : PrS pe pn pw ps) {p : T3} (s : SzP' p) {W H : Int} (cf : CFp pe pn pw ps p W H) : Bd 700 W ∧ Bd 700 H := by
  have bs := s.bg z
  have a0 := ab_nnP p.1
  have u0 := ab_nnP p.2.1
  have ew := z.e; have ww := z.w; have nn := z.n; have ss := z.s
  have c : Bd 700 ((pe + pw) * W + (pn + ps) * H) := by
    have n1 := cf.fr.1
    have n2 := cf.fr.2.1
    have m1 := Int.mul_nonneg (show 0 ≤ pe + pw by omega) (show 0 ≤ W by omega)
    have m2 := Int.mul_nonneg (show 0 ≤ pn + ps by omega) (show 0 ≤ H by omega)
    by_cases q : prdF p ≤ ab p.1 * ab p.2.1
    · have l := cf.le _ _ ⟨Int.le_refl _, Int.le_refl _, q⟩
      exact Bd.of_le (by omega) l (Bd.mono ((bs.bw.mul bs.ba).add2 (bs.bh.mul bs.bu)) (by decide))
    · exact (cf.bd ⟨a0, u0, by omega, by omega, by omega⟩ bs).1
  have n1 := cf.fr.1
  have n2 := cf.fr.2.1
  have m1 := Int.mul_le_mul_of_nonneg_right (show 1 ≤ pe + pw by omega) (show 0 ≤ W by omega)
  have m2 := Int.mul_le_mul_of_nonneg_right (show 1 ≤ pn + ps by omega) (show 0 ≤ H by omega)
  exact ⟨Bd.of_le (by omega) (by omega) c, Bd.of_le (by omega) (by omega) c⟩
abbrev plP (T : Tx K mg) (p : T3) : D := pl T p.1 p.2.1 p.2.2
def pr_Prices_frame (T : Tx K mg) : Pr := fun ds B k e => ∃ (pe pn pw ps : Int) (p : T3), ds = [pcD T pe pn pw ps, plP T p] ∧ PrS pe pn pw ps ∧ SzP' p ∧ ∀ W H, CFp pe pn pw ps p W H → k (t2 W H) B
theorem okD_Prices_frame (T : Tx K mg) : FnOk P w K mg base (L2.CX P w) 6 T.a_Prices_frame T.d_Prices_frame P_Prices_frame (spD K (pr_Prices_frame T)) := by
  refine T.F_Prices_frame.okX sc_Prices_frame (spD_len fun ds B k e h => by obtain ⟨pe, pn, pw, ps, p, rfl, z, s1, hk⟩ := h; rfl) (fun cdv A outer s H vs Q E hr h => ?_)
  have G_cheapest_frame : FnOk P w K mg base (L2.CX P w) 5 _ _ _ _ := okD_cheapest_frame T
  obtain ⟨G, ds, B, k, e, hs, hR, ⟨pe, pn, pw, ps, p, rfl, z, s1, hk⟩, hK, hX⟩ := h
  refine ⟨_, (pss_cons (ps_set (i := 2) sc_Prices_frame.nd rfl (.inl rfl) (pe_op op_mulW (pe_fld (pv 1) rfl) (pe_fld (pv 1) rfl)))
 (pss_cons (ps_set (i := 3) sc_Prices_frame.nd rfl (.inl rfl) (pe_callB (call_max2 rfl) (by rfl) T.n_max (by decide +kernel) (pa_cons (pe_op op_add (pe_fld (pv 1) rfl) (pe_callB (call_max2 rfl) (by rfl) T.n_max (by decide +kernel) (pa_cons pe_int (pa_cons (pe_un un_neg (pv 2)) pa_nil)))) (pa_cons (pe_op op_sub (pe_callB (call_max2 rfl) (by rfl) T.n_max (by decide +kernel) (pa_cons pe_int (pa_cons (pv 2) pa_nil))) (pe_fld (pv 1) rfl)) pa_nil))))
 (pss_one (ps_ret (pe_call G_cheapest_frame (hr.mono (by decide)) (by rfl) T.g_cheapest_frame T.F_cheapest_frame.kp T.b_cheapest_frame .nil passL (pa_cons (pe_callB call_abs (by rfl) T.n_abs (by decide +kernel) (pa_cons (pe_fld (pv 1) rfl) pa_nil)) (pa_cons (pe_callB call_abs (by rfl) T.n_abs (by decide +kernel) (pa_cons (pe_fld (pv 1) rfl) pa_nil)) (pa_cons (pv 3) (pa_cons (pe_op op_add (pe_fld (pv 0) rfl) (pe_fld (pv 0) rfl)) (pa_cons (pe_op op_add (pe_fld (pv 0) rfl) (pe_fld (pv 0) rfl)) pa_nil)))))))))), run_body (ρ := [some (pcD T pe pn pw ps), some (plP T p), none, none]) hs hR hK hX rfl ?_⟩
  have bx := s1.x
  have by' := s1.y
  have ew := z.e; have ww := z.w; have nn := z.n; have ss := z.s
  refine ws_seq (ws_set (we_op (we_fx T (we_var rfl ⟨_, _, _, rfl, (we_fy T (we_var rfl ⟨_, _, _, rfl, (ro_i (cmc (by apply Bd.mono; (repeat (first | assumption | exact Bd.lit 64 (by decide +kernel) | exact Bd.lit 2000 (by decide +kernel) | apply Bd.neg | apply Bd.fdiv | apply Bd.mul | apply Bd.add2 | apply Bd.sub2)); decide) (by apply Bd.mono; (repeat (first | assumption | exact Bd.lit 64 (by decide +kernel) | exact Bd.lit 2000 (by decide +kernel) | apply Bd.neg | apply Bd.fdiv | apply Bd.mul | apply Bd.add2 | apply Bd.sub2)); decide)) ?_)⟩))⟩))))
  refine ws_seq (ws_set (we_max2 (wa_cons (we_op (we_fa T (we_var rfl ⟨_, _, _, rfl, (we_max2 (wa_cons (we_int (wa_cons (we_neg (we_var rfl ⟨_, rfl, (wa_nil ⟨_, _, rfl, (ro_i0 (wa_cons (we_op (we_max2 (wa_cons (we_int (wa_cons (we_var rfl (wa_nil ⟨_, _, rfl, (we_fa T (we_var rfl ⟨_, _, _, rfl, (ro_i0 (wa_nil ⟨_, _, rfl, ?_⟩))⟩))⟩)))))))))⟩)⟩))))))⟩))))))
  rw [mx_max, mx_max, mx_max, show max (p.2.2 + max 0 (-(p.1 * p.2.1))) (max 0 (p.1 * p.2.1) - p.2.2) = prdF p from rfl]
  refine (ws_ret (we_call (wa_cons (we_abs (wa_cons (we_fx T (we_var rfl ⟨_, _, _, rfl, (wa_nil ⟨_, rfl, (wa_cons (we_abs (wa_cons (we_fy T (we_var rfl ⟨_, _, _, rfl, (wa_nil ⟨_, rfl, (wa_cons (we_var rfl (wa_cons (we_op (we_fld (we_var rfl ⟨_, _, _, _, rfl, T.cl_Prices, T.na_Prices_east, rfl, (we_fld (we_var rfl ⟨_, _, _, _, rfl, T.cl_Prices, T.na_Prices_west, rfl, (ro_i0 (wa_cons (we_op (we_fld (we_var rfl ⟨_, _, _, _, rfl, T.cl_Prices, T.na_Prices_north, rfl, (we_fld (we_var rfl ⟨_, _, _, _, rfl, T.cl_Prices, T.na_Prices_south, rfl, (ro_i0 (wa_nil ⟨_, _, _, _, _, rfl, ?_⟩))⟩))⟩)))))⟩))⟩))))))⟩)⟩)))))⟩)⟩)))))))
  rw [ab_ifP, ab_ifP]
  exact ⟨ab_nnP _, ab_nnP _, by omega, by omega, s1.bg z, hk⟩
def pr_Prices_least_price (T : Tx K mg) : Pr := fun ds B k e => ∃ (pe pn pw ps : Int) (p : T3), ds = [pcD T pe pn pw ps, plP T p] ∧ PrS pe pn pw ps ∧ SzP' p ∧ ∀ v, IsL pe pn pw ps p v → k (.int v) B
theorem okD_Prices_least_price (T : Tx K mg) : FnOk P w K mg base (L2.CX P w) 7 T.a_Prices_least_price T.d_Prices_least_price P_Prices_least_price (spD K (pr_Prices_least_price T)) := by
  refine T.F_Prices_least_price.okX sc_Prices_least_price (spD_len fun ds B k e h => by obtain ⟨pe, pn, pw, ps, p, rfl, z, s1, hk⟩ := h; rfl) (fun cdv A outer s H vs Q E hr h => ?_)
  have G_Prices_frame : FnOk P w K mg base (L2.CX P w) 6 _ _ _ _ := okD_Prices_frame T
  obtain ⟨G, ds, B, k, e, hs, hR, ⟨pe, pn, pw, ps, p, rfl, z, s1, hk⟩, hK, hX⟩ := h
  refine ⟨_, (pss_cons (ps_par (i := 2) (j := 3) (by rfl) sc_Prices_least_price.nd rfl rfl (by decide) rfl rfl (pa_cons (pe_callB call_abs (by rfl) T.n_abs (by decide +kernel) (pa_cons (pe_fld (pv 1) rfl) pa_nil)) (pa_cons (pe_callB call_abs (by rfl) T.n_abs (by decide +kernel) (pa_cons (pe_fld (pv 1) rfl) pa_nil)) pa_nil)) (by rfl))
 (pss_cons (ps_asg (pe_meth (pv 0) T.cl_Prices T.M_Prices_frame G_Prices_frame (hr.mono (by decide)) T.b_Prices_frame .nil passL (pa_cons (pv 1) pa_nil)) (pg_tup rfl (pgs_cons (pg_name (i := 4) sc_Prices_least_price.nd rfl (.inl rfl)) (pgs_cons (pg_name (i := 5) sc_Prices_least_price.nd rfl (.inl rfl)) pgs_nil))))
 (pss_cons (ps_set (i := 6) sc_Prices_least_price.nd rfl (.inl rfl) (pe_op op_add (pe_op op_mulW (pv 2) (pe_ifExp (pt_cmpR op_lt (pe_fld (pv 1) rfl) pe_int (nomark _)) (pe_fld (pv 0) rfl) (pe_fld (pv 0) rfl))) (pe_op op_mulW (pv 3) (pe_ifExp (pt_cmpR op_lt (pe_fld (pv 1) rfl) pe_int (nomark _)) (pe_fld (pv 0) rfl) (pe_fld (pv 0) rfl)))))
 (pss_one (ps_ret (pe_op op_add (pe_op op_add (pv 6) (pe_op op_mulW (pe_op op_add (pe_fld (pv 0) rfl) (pe_fld (pv 0) rfl)) (pe_op op_sub (pv 4) (pv 2)))) (pe_op op_mulW (pe_op op_add (pe_fld (pv 0) rfl) (pe_fld (pv 0) rfl)) (pe_op op_sub (pv 5) (pv 3))))))))), run_body (ρ := [some (pcD T pe pn pw ps), some (plP T p), none, none, none, none, none]) hs hR hK hX rfl ?_⟩
  have bx := s1.x.ab
  have by' := s1.y.ab
  have ew := z.e; have ww := z.w; have nn := z.n; have ss := z.s
  have be : Bd 20 pe := by unfold Bd; omega
  have bn : Bd 20 pn := by unfold Bd; omega
  have bw : Bd 20 pw := by unfold Bd; omega
  have bs : Bd 20 ps := by unfold Bd; omega
  refine ws_seq (ws_par (wa_cons (we_abs (wa_cons (we_fx T (we_var rfl ⟨_, _, _, rfl, (wa_nil ⟨_, rfl, (wa_cons (we_abs (wa_cons (we_fy T (we_var rfl ⟨_, _, _, rfl, (wa_nil ⟨_, rfl, (wa_nil ⟨_, _, rfl, ?_⟩)⟩)⟩)))))⟩)⟩))))))
  rw [ab_ifP, ab_ifP]
  refine ws_seq (ws_asg (we_meth (we_var rfl ⟨_, _, rfl, by decide +kernel, (wa_cons (we_var rfl (wa_nil ⟨_, _, _, _, p, rfl, z, s1, fun W H cf => (wg_tup rfl (wgs_cons (wg_name (wgs_cons (wg_name (wgs_nil ?_))))))⟩)))⟩)))
  obtain ⟨bW, bH⟩ := cfp_bd z s1 cf
  have hv := hk _ (cf_isL cf)
  unfold lpF at hv
  refine ws_seq (ws_set (we_op (we_op (we_var rfl (we_ifE (wt_test (we_op (we_fx T (we_var rfl ⟨_, _, _, rfl, (we_int (ro_b0 ⟨_, rfl, ⟨fun hc3 => (we_fld (we_var rfl ⟨_, _, _, _, rfl, T.cl_Prices, T.na_Prices_west, rfl, (ro_i (cmc (by apply Bd.mono; (repeat (first | assumption | exact Bd.lit 64 (by decide +kernel) | exact Bd.lit 2000 (by decide +kernel) | apply Bd.neg | apply Bd.fdiv | apply Bd.mul | apply Bd.add2 | apply Bd.sub2)); decide) (by apply Bd.mono; (repeat (first | assumption | exact Bd.lit 64 (by decide +kernel) | exact Bd.lit 2000 (by decide +kernel) | apply Bd.neg | apply Bd.fdiv | apply Bd.mul | apply Bd.add2 | apply Bd.sub2)); decide)) (we_op (we_var rfl (we_ifE (wt_test (we_op (we_fy T (we_var rfl ⟨_, _, _, rfl, (we_int (ro_b0 ⟨_, rfl, ⟨fun hc1 => (we_fld (we_var rfl ⟨_, _, _, _, rfl, T.cl_Prices, T.na_Prices_south, rfl, (ro_i (cmc (by apply Bd.mono; (repeat (first | assumption | exact Bd.lit 64 (by decide +kernel) | exact Bd.lit 2000 (by decide +kernel) | apply Bd.neg | apply Bd.fdiv | apply Bd.mul | apply Bd.add2 | apply Bd.sub2)); decide) (by apply Bd.mono; (repeat (first | assumption | exact Bd.lit 64 (by decide +kernel) | exact Bd.lit 2000 (by decide +kernel) | apply Bd.neg | apply Bd.fdiv | apply Bd.mul | apply Bd.add2 | apply Bd.sub2)); decide)) (ro_i0 ?_))⟩)), fun hc2 => (we_fld (we_var rfl ⟨_, _, _, _, rfl, T.cl_Prices, T.na_Prices_north, rfl, (ro_i (cmc (by apply Bd.mono; (repeat (first | assumption | exact Bd.lit 64 (by decide +kernel) | exact Bd.lit 2000 (by decide +kernel) | apply Bd.neg | apply Bd.fdiv | apply Bd.mul | apply Bd.add2 | apply Bd.sub2)); decide) (by apply Bd.mono; (repeat (first | assumption | exact Bd.lit 64 (by decide +kernel) | exact Bd.lit 2000 (by decide +kernel) | apply Bd.neg | apply Bd.fdiv | apply Bd.mul | apply Bd.add2 | apply Bd.sub2)); decide)) (ro_i0 ?_))⟩))⟩⟩))⟩))))))))⟩)), fun hc4 => (we_fld (we_var rfl ⟨_, _, _, _, rfl, T.cl_Prices, T.na_Prices_east, rfl, (ro_i (cmc (by apply Bd.mono; (repeat (first | assumption | exact Bd.lit 64 (by decide +kernel) | exact Bd.lit 2000 (by decide +kernel) | apply Bd.neg | apply Bd.fdiv | apply Bd.mul | apply Bd.add2 | apply Bd.sub2)); decide) (by apply Bd.mono; (repeat (first | assumption | exact Bd.lit 64 (by decide +kernel) | exact Bd.lit 2000 (by decide +kernel) | apply Bd.neg | apply Bd.fdiv | apply Bd.mul | apply Bd.add2 | apply Bd.sub2)); decide)) (we_op (we_var rfl (we_ifE (wt_test (we_op (we_fy T (we_var rfl ⟨_, _, _, rfl, (we_int (ro_b0 ⟨_, rfl, ⟨fun hc1 => (we_fld (we_var rfl ⟨_, _, _, _, rfl, T.cl_Prices, T.na_Prices_south, rfl, (ro_i (cmc (by apply Bd.mono; (repeat (first | assumption | exact Bd.lit 64 (by decide +kernel) | exact Bd.lit 2000 (by decide +kernel) | apply Bd.neg | apply Bd.fdiv | apply Bd.mul | apply Bd.add2 | apply Bd.sub2)); decide) (by apply Bd.mono; (repeat (first | assumption | exact Bd.lit 64 (by decide +kernel) | exact Bd.lit 2000 (by decide +kernel) | apply Bd.neg | apply Bd.fdiv | apply Bd.mul | apply Bd.add2 | apply Bd.sub2)); decide)) (ro_i0 ?_))⟩)), fun hc2 => (we_fld (we_var rfl ⟨_, _, _, _, rfl, T.cl_Prices, T.na_Prices_north, rfl, (ro_i (cmc (by apply Bd.mono; (repeat (first | assumption | exact Bd.lit 64 (by decide +kernel) | exact Bd.lit 2000 (by decide +kernel) | apply Bd.neg | apply Bd.fdiv | apply Bd.mul | apply Bd.add2 | apply Bd.sub2)); decide) (by apply Bd.mono; (repeat (first | assumption | exact Bd.lit 64 (by decide +kernel) | exact Bd.lit 2000 (by decide +kernel) | apply Bd.neg | apply Bd.fdiv | apply Bd.mul | apply Bd.add2 | apply Bd.sub2)); decide)) (ro_i0 ?_))⟩))⟩⟩))⟩))))))))⟩))⟩⟩))⟩)))))))))
  · rw [if_pos (of_decide_eq_true hc3), if_pos (of_decide_eq_true hc1)] at hv
    refine (ws_ret (we_op (we_op (we_var rfl (we_op (we_op (we_fld (we_var rfl ⟨_, _, _, _, rfl, T.cl_Prices, T.na_Prices_east, rfl, (we_fld (we_var rfl ⟨_, _, _, _, rfl, T.cl_Prices, T.na_Prices_west, rfl, (ro_i0 (we_op (we_var rfl (we_var rfl (ro_i0 (ro_i (cmc (by apply Bd.mono; (repeat (first | assumption | exact Bd.lit 64 (by decide +kernel) | exact Bd.lit 2000 (by decide +kernel) | apply Bd.neg | apply Bd.fdiv | apply Bd.mul | apply Bd.add2 | apply Bd.sub2)); decide) (by apply Bd.mono; (repeat (first | assumption | exact Bd.lit 64 (by decide +kernel) | exact Bd.lit 2000 (by decide +kernel) | apply Bd.neg | apply Bd.fdiv | apply Bd.mul | apply Bd.add2 | apply Bd.sub2)); decide)) (ro_i0 (we_op (we_op (we_fld (we_var rfl ⟨_, _, _, _, rfl, T.cl_Prices, T.na_Prices_north, rfl, (we_fld (we_var rfl ⟨_, _, _, _, rfl, T.cl_Prices, T.na_Prices_south, rfl, (ro_i0 (we_op (we_var rfl (we_var rfl (ro_i0 (ro_i (cmc (by apply Bd.mono; (repeat (first | assumption | exact Bd.lit 64 (by decide +kernel) | exact Bd.lit 2000 (by decide +kernel) | apply Bd.neg | apply Bd.fdiv | apply Bd.mul | apply Bd.add2 | apply Bd.sub2)); decide) (by apply Bd.mono; (repeat (first | assumption | exact Bd.lit 64 (by decide +kernel) | exact Bd.lit 2000 (by decide +kernel) | apply Bd.neg | apply Bd.fdiv | apply Bd.mul | apply Bd.add2 | apply Bd.sub2)); decide)) (ro_i0 ?_)))))))⟩))⟩)))))))))))⟩))⟩))))))))
    exact hv
  · rw [if_pos (of_decide_eq_true hc3), if_neg (of_decide_eq_false hc2)] at hv
    refine (ws_ret (we_op (we_op (we_var rfl (we_op (we_op (we_fld (we_var rfl ⟨_, _, _, _, rfl, T.cl_Prices, T.na_Prices_east, rfl, (we_fld (we_var rfl ⟨_, _, _, _, rfl, T.cl_Prices, T.na_Prices_west, rfl, (ro_i0 (we_op (we_var rfl (we_var rfl (ro_i0 (ro_i (cmc (by apply Bd.mono; (repeat (first | assumption | exact Bd.lit 64 (by decide +kernel) | exact Bd.lit 2000 (by decide +kernel) | apply Bd.neg | apply Bd.fdiv | apply Bd.mul | apply Bd.add2 | apply Bd.sub2)); decide) (by apply Bd.mono; (repeat (first | assumption | exact Bd.lit 64 (by decide +kernel) | exact Bd.lit 2000 (by decide +kernel) | apply Bd.neg | apply Bd.fdiv | apply Bd.mul | apply Bd.add2 | apply Bd.sub2)); decide)) (ro_i0 (we_op (we_op (we_fld (we_var rfl ⟨_, _, _, _, rfl, T.cl_Prices, T.na_Prices_north, rfl, (we_fld (we_var rfl ⟨_, _, _, _, rfl, T.cl_Prices, T.na_Prices_south, rfl, (ro_i0 (we_op (we_var rfl (we_var rfl (ro_i0 (ro_i (cmc (by apply Bd.mono; (repeat (first | assumption | exact Bd.lit 64 (by decide +kernel) | exact Bd.lit 2000 (by decide +kernel) | apply Bd.neg | apply Bd.fdiv | apply Bd.mul | apply Bd.add2 | apply Bd.sub2)); decide) (by apply Bd.mono; (repeat (first | assumption | exact Bd.lit 64 (by decide +kernel) | exact Bd.lit 2000 (by decide +kernel) | apply Bd.neg | apply Bd.fdiv | apply Bd.mul | apply Bd.add2 | apply Bd.sub2)); decide)) (ro_i0 ?_)))))))⟩))⟩)))))))))))⟩))⟩))))))))
    exact hv
  · rw [if_neg (of_decide_eq_false hc4), if_pos (of_decide_eq_true hc1)] at hv
    refine (ws_ret (we_op (we_op (we_var rfl (we_op (we_op (we_fld (we_var rfl ⟨_, _, _, _, rfl, T.cl_Prices, T.na_Prices_east, rfl, (we_fld (we_var rfl ⟨_, _, _, _, rfl, T.cl_Prices, T.na_Prices_west, rfl, (ro_i0 (we_op (we_var rfl (we_var rfl (ro_i0 (ro_i (cmc (by apply Bd.mono; (repeat (first | assumption | exact Bd.lit 64 (by decide +kernel) | exact Bd.lit 2000 (by decide +kernel) | apply Bd.neg | apply Bd.fdiv | apply Bd.mul | apply Bd.add2 | apply Bd.sub2)); decide) (by apply Bd.mono; (repeat (first | assumption | exact Bd.lit 64 (by decide +kernel) | exact Bd.lit 2000 (by decide +kernel) | apply Bd.neg | apply Bd.fdiv | apply Bd.mul | apply Bd.add2 | apply Bd.sub2)); decide)) (ro_i0 (we_op (we_op (we_fld (we_var rfl ⟨_, _, _, _, rfl, T.cl_Prices, T.na_Prices_north, rfl, (we_fld (we_var rfl ⟨_, _, _, _, rfl, T.cl_Prices, T.na_Prices_south, rfl, (ro_i0 (we_op (we_var rfl (we_var rfl (ro_i0 (ro_i (cmc (by apply Bd.mono; (repeat (first | assumption | exact Bd.lit 64 (by decide +kernel) | exact Bd.lit 2000 (by decide +kernel) | apply Bd.neg | apply Bd.fdiv | apply Bd.mul | apply Bd.add2 | apply Bd.sub2)); decide) (by apply Bd.mono; (repeat (first | assumption | exact Bd.lit 64 (by decide +kernel) | exact Bd.lit 2000 (by decide +kernel) | apply Bd.neg | apply Bd.fdiv | apply Bd.mul | apply Bd.add2 | apply Bd.sub2)); decide)) (ro_i0 ?_)))))))⟩))⟩)))))))))))⟩))⟩))))))))
    exact hv
  · rw [if_neg (of_decide_eq_false hc4), if_neg (of_decide_eq_false hc2)] at hv
    refine (ws_ret (we_op (we_op (we_var rfl (we_op (we_op (we_fld (we_var rfl ⟨_, _, _, _, rfl, T.cl_Prices, T.na_Prices_east, rfl, (we_fld (we_var rfl ⟨_, _, _, _, rfl, T.cl_Prices, T.na_Prices_west, rfl, (ro_i0 (we_op (we_var rfl (we_var rfl (ro_i0 (ro_i (cmc (by apply Bd.mono; (repeat (first | assumption | exact Bd.lit 64 (by decide +kernel) | exact Bd.lit 2000 (by decide +kernel) | apply Bd.neg | apply Bd.fdiv | apply Bd.mul | apply Bd.add2 | apply Bd.sub2)); decide) (by apply Bd.mono; (repeat (first | assumption | exact Bd.lit 64 (by decide +kernel) | exact Bd.lit 2000 (by decide +kernel) | apply Bd.neg | apply Bd.fdiv | apply Bd.mul | apply Bd.add2 | apply Bd.sub2)); decide)) (ro_i0 (we_op (we_op (we_fld (we_var rfl ⟨_, _, _, _, rfl, T.cl_Prices, T.na_Prices_north, rfl, (we_fld (we_var rfl ⟨_, _, _, _, rfl, T.cl_Prices, T.na_Prices_south, rfl, (ro_i0 (we_op (we_var rfl (we_var rfl (ro_i0 (ro_i (cmc (by apply Bd.mono; (repeat (first | assumption | exact Bd.lit 64 (by decide +kernel) | exact Bd.lit 2000 (by decide +kernel) | apply Bd.neg | apply Bd.fdiv | apply Bd.mul | apply Bd.add2 | apply Bd.sub2)); decide) (by apply Bd.mono; (repeat (first | assumption | exact Bd.lit 64 (by decide +kernel) | exact Bd.lit 2000 (by decide +kernel) | apply Bd.neg | apply Bd.fdiv | apply Bd.mul | apply Bd.add2 | apply Bd.sub2)); decide)) (ro_i0 ?_)))))))⟩))⟩)))))))))))⟩))⟩))))))))
    exact hv
def pxF (pe pn pw ps : Int) : D → D → D
  | .str c, .int t => .int (pl4 pe pn pw ps c * t)
  | _, _ => .non
def pr_Prices_price_of (T : Tx K mg) : Pr := fun ds B k e => ∃ (pe pn pw ps : Int) (qs : List Rn), ds = [pcD T pe pn pw ps, wkD T qs] ∧ PrS pe pn pw ps ∧ GoodR qs ∧ RnOk qs ∧ k (.int (prcR pe pn pw ps qs)) B
theorem okD_Prices_price_of (T : Tx K mg) : FnOk P w K mg base (L2.CX P w) 1 T.a_Prices_price_of T.d_Prices_price_of P_Prices_price_of (spD K (pr_Prices_price_of T)) := by
  refine T.F_Prices_price_of.okX sc_Prices_price_of (spD_len fun ds B k e h => by obtain ⟨pe, pn, pw, ps, qs, rfl, z, g, rn, hk⟩ := h; rfl) (fun cdv A outer s H vs Q E hr h => ?_)
  have hu := hu_of hr
  obtain ⟨G, ds, B, k, e, hs, hR, ⟨pe, pn, pw, ps, qs, rfl, z, g, rn, hk⟩, hK, hX⟩ := h
  refine ⟨_, (pss_cons (ps_set (i := 2) sc_Prices_price_of.nd rfl (.inr rfl) (pe_disp (pps_cons pe_str (pe_fld (pv 0) rfl) (pps_cons pe_str (pe_fld (pv 0) rfl) (pps_cons pe_str (pe_fld (pv 0) rfl) (pps_cons pe_str (pe_fld (pv 0) rfl) pps_nil)))) (by rfl) (by rfl) (fun z => by cases z) (by decide)))
 (pss_one (ps_ret (pe_callB (cr_sum rfl) (by rfl) T.n_sum (by decide +kernel) (pa_cons (pe_lc (own := [("letter", 3), ("times", 4)]) (g := gTup K 2 (gCons (gName 3) (gCons (gName 4) gNil))) (by rfl) sc_Prices_price_of.nd (pi_tup (pe_fld (pv 1) rfl)) (blkOk_by (own := [("letter", 3), ("times", 4)]) (N := N_Prices_price_of) (sc := defScope s_Prices_price_of) (by decide +kernel)) (fun _ _ _ _ _ => pg_tup rfl (pgs_cons (pg_name (i := 3) sc_Prices_price_of.nd rfl (Or.inl rfl)) (pgs_cons (pg_name (i := 4) sc_Prices_price_of.nd rfl (Or.inl rfl)) pgs_nil))) (fun _ _ _ _ _ => pts_nil) (fun _ _ _ _ _ => (pe_op op_mulW (pe_dget hu (pv 2) (pv 3) (fun _ _ => rfl)) (pv 4)))) pa_nil))))), run_body (ρ := [some (pcD T pe pn pw ps), some (wkD T qs), none, none, none]) hs hR hK hX rfl ?_⟩
  have hcl : ∀ p ∈ ([("e", .int pe), ("n", .int pn), ("w", .int pw), ("s", .int ps)] : List (Str × D)), p.1 ≠ "cells" := fun p hp => by
    simp only [List.mem_cons, List.not_mem_nil, or_false] at hp
    have c4 : ¬ (("e" : Str) = "cells") ∧ ¬ (("n" : Str) = "cells") ∧ ¬ (("w" : Str) = "cells") ∧ ¬ (("s" : Str) = "cells") := by decide +kernel
    rcases hp with rfl | rfl | rfl | rfl
    · exact c4.1
    · exact c4.2.1
    · exact c4.2.2.1
    · exact c4.2.2.2
  refine ws_seq (ws_set (we_disp <| we_str ⟨_, rfl, we_fld <| we_var rfl ⟨_, _, _, _, rfl, T.cl_Prices, T.na_Prices_east, rfl, we_str ⟨_, rfl, we_fld <| we_var rfl ⟨_, _, _, _, rfl, T.cl_Prices, T.na_Prices_north, rfl, we_str ⟨_, rfl, we_fld <| we_var rfl ⟨_, _, _, _, rfl, T.cl_Prices, T.na_Prices_west, rfl, we_str ⟨_, rfl, we_fld <| we_var rfl ⟨_, _, _, _, rfl, T.cl_Prices, T.na_Prices_south, rfl, ⟨by show 4 ≤ 15; decide, hcl, ?_⟩⟩⟩⟩⟩⟩⟩⟩⟩))
  have hz : qs.length < sizeLine := Nat.lt_of_le_of_lt rn.1 (by decide)
  refine ws_ret <| we_sum <| wa_cons <| we_lc_pairT (E1 := E0) (by decide) <| we_fld <| we_var rfl ⟨_, _, _, _, rfl, T.cl_Walk, T.na_Walk_runs, rfl, ⟨qs.map fun q => (D.str q.1, D.int q.2), by rw [List.map_map]; rfl, by rw [List.length_map]; exact hz, pxF pe pn pw ps, fun n x y hxy k' hk' => ?_, wa_nil ⟨qs.map fun q => pl4 pe pn pw ps q.1 * q.2, by rw [List.map_map, List.map_map]; rfl, by rw [prc_sum g]; exact hk⟩⟩⟩
  rw [List.getElem?_map] at hxy
  obtain ⟨q, hq, e⟩ := Option.map_eq_some_iff.mp hxy
  cases e
  have hm := List.mem_of_getElem? hq
  obtain ⟨q1, q2⟩ := rn.2.1 q hm
  have bp : Bd 20 (pl4 pe pn pw ps q.1) := by have := pl4_pos z q.1; unfold Bd; omega
  refine we_op <| we_dget <| we_var rfl ⟨[("e", .int pe), ("n", .int pn), ("w", .int pw), ("s", .int ps)], rfl, we_var rfl ⟨q.1, .int (pl4 pe pn pw ps q.1), rfl, ?_, we_var rfl <| ro_i (cmc (by apply Bd.mono; (repeat (first | assumption | exact Bd.lit 64 (by decide +kernel) | exact Bd.lit 2000 (by decide +kernel) | apply Bd.neg | apply Bd.fdiv | apply Bd.mul | apply Bd.add2 | apply Bd.sub2)); decide) (by apply Bd.mono; (repeat (first | assumption | exact Bd.lit 64 (by decide +kernel) | exact Bd.lit 2000 (by decide +kernel) | apply Bd.neg | apply Bd.fdiv | apply Bd.mul | apply Bd.add2 | apply Bd.sub2)); decide)) hk'⟩⟩
  obtain ⟨m1, m2, m3, m4, m5, m6⟩ := str_ne
  unfold pl4
  rcases mem_enws q1 with h | h | h | h <;> rw [h] <;> simp [lookD, m1, m2, m3, m4, m5, m6, Ne.symm m1, Ne.symm m2, Ne.symm m3, Ne.symm m4, Ne.symm m5, Ne.symm m6]
end
end AW

set_option linter.all false
set_option maxRecDepth 100000
set_option maxHeartbeats 8000000
namespace AW
open PySem PySem.Spec PyProof.Rows L2 Fewest
variable [Tbs]
section
variable {P : Program} {w : World} {K : PySem.W.Frag} {mg : Str → Option Value} {base : Heap} [CDict K w "DIRECTIONS" L_DIRECTIONS]
def pr_l_place (T : Tx K mg) : Pr := fun ds B k e => ∃ p : T3, ds = [tD p] ∧ k (plP T p) B
theorem okD_l_place (T : Tx K mg) : FnOk P w K mg base (L2.CX P w) 6 T.a_l_place T.d_l_place P_l_place (spD K (pr_l_place T)) := by
  refine T.F_l_place.okX sc_l_place (spD_len fun ds B k e h => by obtain ⟨p, rfl, hk⟩ := h; rfl) (fun cdv A outer s H vs Q E hr h => ?_)
  have G_Place_init : FnOk P w K mg base (L2.CX P w) _ _ _ _ _ := okD_Place_init T
  obtain ⟨G, ds, B, k, e, hs, hR, ⟨p, rfl, hk⟩, hK, hX⟩ := h
  refine ⟨_, (pss_one (ps_ret (pe_make T.M_Place G_Place_init (hr.mono (by decide)) (by rfl) T.g_C_Place T.b_Place_init .nil passL (pa_cons (pe_ix ix_tup (pv 0) pe_int (fun _ _ => rfl)) (pa_cons (pe_ix ix_tup (pv 0) pe_int (fun _ _ => rfl)) (pa_cons (pe_ix ix_tup (pv 0) pe_int (fun _ _ => rfl)) pa_nil)))))), run_body (ρ := [some (tD p)]) hs hR hK hX rfl ?_⟩
  exact ws_ret <| we_place T <| wa_cons <| we_op <| we_var rfl <| we_int <| ro_ixT rfl <| wa_cons <| we_op <| we_var rfl <| we_int <| ro_ixT rfl <| wa_cons <| we_op <| we_var rfl <| we_int <| ro_ixT rfl <| wa_nil ⟨_, _, _, rfl, hk⟩
def pr_l_behind (T : Tx K mg) : Pr := fun ds B k e => ∃ p q : T3, ds = [tD p, tD q] ∧ CMulW p.1 q.2.1 ∧ k (tD (mu p q)) B
theorem okD_l_behind (T : Tx K mg) : FnOk P w K mg base (L2.CX P w) 1 T.a_l_behind T.d_l_behind P_l_behind (spD K (pr_l_behind T)) := by
  refine T.F_l_behind.okX sc_l_behind (spD_len fun ds B k e h => by obtain ⟨p, q, rfl, cw, hk⟩ := h; rfl) (fun cdv A outer s H vs Q E hr h => ?_)
  obtain ⟨G, ds, B, k, e, hs, hR, ⟨p, q, rfl, cw, hk⟩, hK, hX⟩ := h
  refine ⟨_, (pss_one (ps_ret (pe_tup (pa_cons (pe_op op_add (pe_ix ix_tup (pv 0) pe_int (fun _ _ => rfl)) (pe_ix ix_tup (pv 1) pe_int (fun _ _ => rfl))) (pa_cons (pe_op op_add (pe_ix ix_tup (pv 0) pe_int (fun _ _ => rfl)) (pe_ix ix_tup (pv 1) pe_int (fun _ _ => rfl))) (pa_cons (pe_op op_add (pe_op op_add (pe_ix ix_tup (pv 0) pe_int (fun _ _ => rfl)) (pe_ix ix_tup (pv 1) pe_int (fun _ _ => rfl))) (pe_op op_mulW (pe_ix ix_tup (pv 0) pe_int (fun _ _ => rfl)) (pe_ix ix_tup (pv 1) pe_int (fun _ _ => rfl)))) pa_nil)))))), run_body (ρ := [some (tD p), some (tD q)]) hs hR hK hX rfl ?_⟩
  exact ws_ret <| we_tup <| wa_cons <| we_op <| we_op <| we_var rfl <| we_int <| ro_ixT rfl <| we_op <| we_var rfl <| we_int <| ro_ixT rfl <| ro_i0 <| wa_cons <| we_op <| we_op <| we_var rfl <| we_int <| ro_ixT rfl <| we_op <| we_var rfl <| we_int <| ro_ixT rfl <| ro_i0 <| wa_cons <| we_op <| we_op <| we_op <| we_var rfl <| we_int <| ro_ixT rfl <| we_op <| we_var rfl <| we_int <| ro_ixT rfl <| ro_i0 <| we_op <| we_op <| we_var rfl <| we_int <| ro_ixT rfl <| we_op <| we_var rfl <| we_int <| ro_ixT rfl <| ro_i cw <| ro_i0 <| wa_nil ⟨Nat.le_of_ble_eq_true rfl, hk⟩
abbrev bkT (p : T3) : T3 := (-p.1, -p.2.1, p.1 * p.2.1 - p.2.2)
def pr_l_back (T : Tx K mg) : Pr := fun ds B k e => ∃ p : T3, ds = [tD p] ∧ CMulW p.1 p.2.1 ∧ k (tD (bkT p)) B
theorem okD_l_back (T : Tx K mg) : FnOk P w K mg base (L2.CX P w) 1 T.a_l_back T.d_l_back P_l_back (spD K (pr_l_back T)) := by
  refine T.F_l_back.okX sc_l_back (spD_len fun ds B k e h => by obtain ⟨p, rfl, cw, hk⟩ := h; rfl) (fun cdv A outer s H vs Q E hr h => ?_)
  obtain ⟨G, ds, B, k, e, hs, hR, ⟨p, rfl, cw, hk⟩, hK, hX⟩ := h
  refine ⟨_, (pss_one (ps_ret (pe_tup (pa_cons (pe_un un_neg (pe_ix ix_tup (pv 0) pe_int (fun _ _ => rfl))) (pa_cons (pe_un un_neg (pe_ix ix_tup (pv 0) pe_int (fun _ _ => rfl))) (pa_cons (pe_op op_sub (pe_op op_mulW (pe_ix ix_tup (pv 0) pe_int (fun _ _ => rfl)) (pe_ix ix_tup (pv 0) pe_int (fun _ _ => rfl))) (pe_ix ix_tup (pv 0) pe_int (fun _ _ => rfl))) pa_nil)))))), run_body (ρ := [some (tD p)]) hs hR hK hX rfl ?_⟩
  exact ws_ret <| we_tup <| wa_cons <| we_neg <| we_op <| we_var rfl <| we_int <| ro_ixT rfl ⟨_, rfl, wa_cons <| we_neg <| we_op <| we_var rfl <| we_int <| ro_ixT rfl ⟨_, rfl, wa_cons <| we_op <| we_op <| we_op <| we_var rfl <| we_int <| ro_ixT rfl <| we_op <| we_var rfl <| we_int <| ro_ixT rfl <| ro_i cw <| we_op <| we_var rfl <| we_int <| ro_ixT rfl <| ro_i0 <| wa_nil ⟨Nat.le_of_ble_eq_true rfl, hk⟩⟩⟩
abbrev p4S (pe pn pw ps : Int) : List D := [.int pe, .int pn, .int pw, .int ps]
def pr_l_made (T : Tx K mg) : Pr := fun ds B k e => ∃ (b : Bool) (pe pn pw ps : Int), ds = [seqD b (p4S pe pn pw ps)] ∧ PrS pe pn pw ps ∧ k (pcD T pe pn pw ps) B
theorem okD_l_made (T : Tx K mg) : FnOk P w K mg base (L2.CX P w) 6 T.a_l_made T.d_l_made P_l_made (spD K (pr_l_made T)) := by
  refine T.F_l_made.okX sc_l_made (spD_len fun ds B k e h => by obtain ⟨b, pe, pn, pw, ps, rfl, z, hk⟩ := h; rfl) (fun cdv A outer s H vs Q E hr h => ?_)
  have G_Prices_init : FnOk P w K mg base (L2.CX P w) 4 _ _ _ _ := okD_Prices_init T
  obtain ⟨G, ds, B, k, e, hs, hR, ⟨b, pe, pn, pw, ps, rfl, z, hk⟩, hK, hX⟩ := h
  refine ⟨_, (pss_one (ps_ret (pe_make T.M_Prices G_Prices_init (hr.mono (by decide)) (by rfl) T.g_C_Prices T.b_Prices_init .nil passL (pa_cons (pe_ix ix_seq (pv 0) pe_int (fun _ _ => rfl)) (pa_cons (pe_ix ix_seq (pv 0) pe_int (fun _ _ => rfl)) (pa_cons (pe_ix ix_seq (pv 0) pe_int (fun _ _ => rfl)) (pa_cons (pe_ix ix_seq (pv 0) pe_int (fun _ _ => rfl)) pa_nil))))))), run_body (ρ := [some (seqD b (p4S pe pn pw ps))]) hs hR hK hX rfl ?_⟩
  exact ws_ret <| we_make <| wa_cons <| we_op <| we_var rfl <| we_int <| ro_ixSq b rfl <| wa_cons <| we_op <| we_var rfl <| we_int <| ro_ixSq b rfl <| wa_cons <| we_op <| we_var rfl <| we_int <| ro_ixSq b rfl <| wa_cons <| we_op <| we_var rfl <| we_int <| ro_ixSq b rfl <| wa_nil ⟨pe, pn, pw, ps, rfl, z, hk⟩
structure SzS (p : T3) : Prop where
  x : Bd 105 p.1
  y : Bd 105 p.2.1
  a : Bd 220 p.2.2
theorem SzS.up {p : T3} (s : SzS p) : SzP' p := ⟨s.x.mono (by decide), s.y.mono (by decide), s.a.mono (by decide)⟩
def pr_l_spot (T : Tx K mg) : Pr := fun ds B k e => ds = [penF] ∧ B ≤ 700000 ∧ ∀ (p : T3) B', SzS p → B' ≤ B + 60 → k (tD p) B'
theorem okD_l_spot (T : Tx K mg) : FnOk P w K mg base (L2.CX P w) 6 T.a_l_spot T.d_l_spot P_l_spot (spD K (pr_l_spot T)) := by
  refine T.F_l_spot.okX sc_l_spot (spD_len fun ds B k e h => by obtain ⟨rfl, hB, hk⟩ := h; rfl) (fun cdv A outer s H vs Q E hr h => ?_)
  have G_l_number : FnOk P w K mg base (L2.CX P w) 3 _ _ _ _ := okD_l_number T
  have G_l_pick : FnOk P w K mg base (L2.CX P w) 2 _ _ _ _ := okD_l_pick T
  have G_l_signed : FnOk P w K mg base (L2.CX P w) 5 _ _ _ _ := okD_l_signed T
  obtain ⟨G, ds, B, k, e, hs, hR, ⟨rfl, hB, hk⟩, hK, hX⟩ := h
  refine ⟨_, (pss_cons (ps_par (i := 1) (j := 2) (by rfl) sc_l_spot.nd rfl rfl (by decide) rfl rfl (pa_cons (pe_call G_l_signed (hr.mono (by decide)) (by rfl) T.g_l_signed T.F_l_signed.kp T.b_l_signed .nil passL (pa_cons (pv 0) pa_nil)) (pa_cons (pe_call G_l_signed (hr.mono (by decide)) (by rfl) T.g_l_signed T.F_l_signed.kp T.b_l_signed .nil passL (pa_cons (pv 0) pa_nil)) pa_nil)) (by rfl))
 (pss_one (ps_ret (pe_tup (pa_cons (pv 1) (pa_cons (pv 2) (pa_cons (pe_op op_add (pe_call G_l_pick (hr.mono (by decide)) (by rfl) T.g_l_pick T.F_l_pick.kp T.b_l_pick .nil passL (pa_cons (pv 0) (pa_cons (pe_lst (pa_cons pe_int (pa_cons (pe_op op_mulW (pv 1) (pv 2)) (pa_cons (pe_op op_fdivG (pe_op op_mulW (pv 1) (pv 2)) pe_int) pa_nil)))) pa_nil))) (pe_call G_l_pick (hr.mono (by decide)) (by rfl) T.g_l_pick T.F_l_pick.kp T.b_l_pick .nil passL (pa_cons (pv 0) (pa_cons (pe_lst (pa_cons pe_int (pa_cons (pe_call G_l_signed (hr.mono (by decide)) (by rfl) T.g_l_signed T.F_l_signed.kp T.b_l_signed .nil passL (pa_cons (pv 0) pa_nil)) (pa_cons (pe_op op_mulW (pe_call G_l_number (hr.mono (by decide)) (by rfl) T.g_l_number T.F_l_number.kp T.b_l_number .nil passL (pa_cons (pv 0) (pa_cons pe_int pa_nil))) (pe_call G_l_number (hr.mono (by decide)) (by rfl) T.g_l_number T.F_l_number.kp T.b_l_number .nil passL (pa_cons (pv 0) (pa_cons pe_int pa_nil)))) pa_nil)))) pa_nil)))) pa_nil))))))), run_body (ρ := [some penF, none, none]) hs hR hK hX rfl ?_⟩
  refine ws_seq (ws_par (wa_cons (we_call (wa_cons (we_var rfl (wa_nil ⟨rfl, by omega, fun x B1 bx hB1 => wa_cons (we_call (wa_cons (we_var rfl (wa_nil ⟨rfl, by omega, fun y B2 by' hB2 => wa_nil ⟨_, _, rfl, ?_⟩⟩))))⟩))))))
  have bxy : Bd 210 (x * y) := (by apply Bd.mono; (repeat (first | assumption | exact Bd.lit 64 (by decide +kernel) | exact Bd.lit 2000 (by decide +kernel) | apply Bd.neg | apply Bd.fdiv | apply Bd.mul | apply Bd.add2 | apply Bd.sub2)); decide)
  have bz : Bd 210 ((x * y).fdiv 2) := bxy.fdiv
  have b2 : Bd 8000 2 := (by apply Bd.mono; (repeat (first | assumption | exact Bd.lit 64 (by decide +kernel) | exact Bd.lit 2000 (by decide +kernel) | apply Bd.neg | apply Bd.fdiv | apply Bd.mul | apply Bd.add2 | apply Bd.sub2)); decide)
  refine ws_ret <| we_tup <| wa_cons <| we_var rfl <| wa_cons <| we_var rfl <| wa_cons <| we_op <| we_call <| wa_cons <| we_var rfl <| wa_cons <| we_lst <| wa_cons <| we_int <| wa_cons <| we_op <| we_var rfl <| we_var rfl <| ro_i (cmc (by apply Bd.mono; (repeat (first | assumption | exact Bd.lit 64 (by decide +kernel) | exact Bd.lit 2000 (by decide +kernel) | apply Bd.neg | apply Bd.fdiv | apply Bd.mul | apply Bd.add2 | apply Bd.sub2)); decide) (by apply Bd.mono; (repeat (first | assumption | exact Bd.lit 64 (by decide +kernel) | exact Bd.lit 2000 (by decide +kernel) | apply Bd.neg | apply Bd.fdiv | apply Bd.mul | apply Bd.add2 | apply Bd.sub2)); decide)) <| wa_cons <| we_op <| we_op <| we_var rfl <| we_var rfl <| ro_i (cmc (by apply Bd.mono; (repeat (first | assumption | exact Bd.lit 64 (by decide +kernel) | exact Bd.lit 2000 (by decide +kernel) | apply Bd.neg | apply Bd.fdiv | apply Bd.mul | apply Bd.add2 | apply Bd.sub2)); decide) (by apply Bd.mono; (repeat (first | assumption | exact Bd.lit 64 (by decide +kernel) | exact Bd.lit 2000 (by decide +kernel) | apply Bd.neg | apply Bd.fdiv | apply Bd.mul | apply Bd.add2 | apply Bd.sub2)); decide)) <| we_int <| ro_i ⟨by decide, lg b2⟩ <| wa_nil ⟨Nat.le_of_ble_eq_true rfl, wa_nil ⟨_, rfl, .inl ⟨_, rfl, by show 0 < 3; decide, by show 3 ≤ 1000000; decide, by omega, fun d hd => ?_⟩⟩⟩
  obtain ⟨a1, rfl, ba1⟩ : ∃ a : Int, d = .int a ∧ Bd 210 a := by
    simp only [List.mem_cons, List.not_mem_nil, or_false] at hd
    rcases hd with rfl | rfl | rfl
    · exact ⟨_, rfl, bd0⟩
    · exact ⟨_, rfl, bxy⟩
    · exact ⟨_, rfl, bz⟩
  refine we_call <| wa_cons <| we_var rfl <| wa_cons <| we_lst <| wa_cons <| we_int <| wa_cons <| we_call <| wa_cons <| we_var rfl <| wa_nil ⟨rfl, by omega, fun s0 B5 bs hB5 => wa_cons <| we_op <| we_call <| wa_cons <| we_var rfl <| wa_cons <| we_int <| wa_nil ⟨4, rfl, by decide, by decide, by omega, fun n0 B6 n00 bn0 hB6 => we_call <| wa_cons <| we_var rfl <| wa_cons <| we_int <| wa_nil ⟨4, rfl, by decide, by decide, by omega, fun n1 B7 n10 bn1 hB7 => ro_i (cmw (bn0.mono (by decide)) (bn1.mono (by decide))) <| wa_nil ⟨Nat.le_of_ble_eq_true rfl, wa_nil ⟨_, rfl, .inl ⟨_, rfl, by show 0 < 3; decide, by show 3 ≤ 1000000; decide, by omega, fun d2 hd2 => ?_⟩⟩⟩⟩⟩⟩
  obtain ⟨a2, rfl, ba2⟩ : ∃ a : Int, d2 = .int a ∧ Bd 210 a := by
    simp only [List.mem_cons, List.not_mem_nil, or_false] at hd2
    rcases hd2 with rfl | rfl | rfl
    · exact ⟨_, rfl, bd0⟩
    · exact ⟨_, rfl, bs.mono (by decide)⟩
    · exact ⟨_, rfl, (bn0.mul bn1).mono (by decide)⟩
  exact ro_i0 <| wa_nil ⟨Nat.le_of_ble_eq_true rfl, hk (x, y, a1 + a2) _ ⟨bx.mono (by decide), by'.mono (by decide), (ba1.add ba2).mono (by decide)⟩ (by omega)⟩
end
end AW

set_option linter.all false
set_option maxRecDepth 100000
set_option maxHeartbeats 8000000
namespace AW
open PySem PySem.Spec PyProof.Rows L2 Fewest
variable [Tbs]
section
variable {P : Program} {w : World} {K : PySem.W.Frag} {mg : Str → Option Value} {base : Heap} [CDict K w "DIRECTIONS" L_DIRECTIONS]
theorem IsL.uniq {pe pn pw ps v v' : Int} {p : T3} (h : IsL pe pn pw ps p v) (h' : IsL pe pn pw ps p v') : v = v' := by
  obtain ⟨⟨qs, g, e, ev⟩, l⟩ := h
  obtain ⟨⟨qs', g', e', ev'⟩, l'⟩ := h'
  have := l _ g' e'
  have := l' _ g e
  omega
theorem cfp_ex {pe pn pw ps : Int} (z : PrS pe pn pw ps) (p : T3) : ∃ W H, CFp pe pn pw ps p W H := by
  have ew := z.e; have ww := z.w; have nn := z.n; have ss := z.s
  by_cases q : prdF p ≤ ab p.1 * ab p.2.1
  · exact ⟨_, _, CF.corner (by omega) (by omega) q⟩
  · exact CF.ex ⟨ab_nnP _, ab_nnP _, by omega, by omega, by omega⟩
theorem ab_neg (x : Int) : ab (-x) = ab x := by unfold ab; omega
theorem ab_flip (x a b : Int) : ab (-x) * (if -x < 0 then a else b) = ab x * (if x < 0 then b else a) := by
  rw [ab_neg]
  by_cases h : x < 0
  · rw [if_pos h, if_neg (by omega)]
  · rw [if_neg h]
    by_cases h2 : -x < 0
    · rw [if_pos h2]
    · rw [if_neg h2, show x = 0 by omega]; simp [ab]
/-- the same frames, the same price: the same least price -/
theorem isl_of {pe pn pw ps a b c d v v' : Int} {p q : T3} (z : PrS pe pn pw ps) (h : IsL pe pn pw ps p v) (h' : IsL a b c d q v') (f : ∀ W H, CFp pe pn pw ps p W H → ∃ W' H', CFp a b c d q W' H' ∧ lpF a b c d q W' H' = lpF pe pn pw ps p W H) : v' = v := by
  obtain ⟨W, H, cf⟩ := cfp_ex z p
  obtain ⟨W', H', cf', e⟩ := f W H cf
  rw [h.uniq (cf_isL cf), h'.uniq (cf_isL cf'), e]
theorem mir0 {pe pn pw ps v v' : Int} {x y a : Int} (z : PrS pe pn pw ps) (h : IsL pe pn pw ps (x, y, a) v) (h' : IsL pw pn pe ps (-x, y, -a) v') : v' = v := isl_of z h h' fun W H cf => by
  refine ⟨W, H, ?_, ?_⟩
  · have e : prdF (-x, y, -a) = prdF (x, y, a) := by
      show max (-a + max 0 (-(-x * y))) (max 0 (-x * y) - -a) = max (a + max 0 (-(x * y))) (max 0 (x * y) - a)
      rw [Int.neg_mul]; omega
    show CF (ab (-x)) (ab y) (prdF (-x, y, -a)) (pw + pe) (pn + ps) W H
    rw [e, ab_neg, Int.add_comm pw pe]
    exact cf
  · show ab (-x) * (if -x < 0 then pe else pw) + ab y * (if y < 0 then ps else pn) + (pw + pe) * (W - ab (-x)) + (pn + ps) * (H - ab y) = ab x * (if x < 0 then pw else pe) + ab y * (if y < 0 then ps else pn) + (pe + pw) * (W - ab x) + (pn + ps) * (H - ab y)
    rw [ab_flip, ab_neg, Int.add_comm pw pe]
theorem mir1 {pe pn pw ps v v' : Int} {x y a : Int} (z : PrS pe pn pw ps) (h : IsL pe pn pw ps (x, y, a) v) (h' : IsL pe ps pw pn (x, -y, -a) v') : v' = v := isl_of z h h' fun W H cf => by
  refine ⟨W, H, ?_, ?_⟩
  · have e : prdF (x, -y, -a) = prdF (x, y, a) := by
      show max (-a + max 0 (-(x * -y))) (max 0 (x * -y) - -a) = max (a + max 0 (-(x * y))) (max 0 (x * y) - a)
      rw [Int.mul_neg]; omega
    show CF (ab x) (ab (-y)) (prdF (x, -y, -a)) (pe + pw) (ps + pn) W H
    rw [e, ab_neg, Int.add_comm ps pn]
    exact cf
  · show ab x * (if x < 0 then pw else pe) + ab (-y) * (if -y < 0 then pn else ps) + (pe + pw) * (W - ab x) + (ps + pn) * (H - ab (-y)) = ab x * (if x < 0 then pw else pe) + ab y * (if y < 0 then ps else pn) + (pe + pw) * (W - ab x) + (pn + ps) * (H - ab y)
    rw [ab_flip, ab_neg, Int.add_comm ps pn]
theorem mir2 {pe pn pw ps v v' : Int} {x y a b : Int} (hb : b = a ∨ b = x * y - a) (z : PrS pe pn pw ps) (h : IsL pe pn pw ps (x, y, a) v) (h' : IsL pw ps pe pn (-x, -y, b) v') : v' = v := isl_of z h h' fun W H cf => by
  refine ⟨W, H, ?_, ?_⟩
  · have e : prdF (-x, -y, b) = prdF (x, y, a) := by
      show max (b + max 0 (-(-x * -y))) (max 0 (-x * -y) - b) = max (a + max 0 (-(x * y))) (max 0 (x * y) - a)
      rw [Int.neg_mul_neg]; rcases hb with rfl | rfl <;> omega
    show CF (ab (-x)) (ab (-y)) (prdF (-x, -y, b)) (pw + pe) (ps + pn) W H
    rw [e, ab_neg, ab_neg, Int.add_comm pw pe, Int.add_comm ps pn]
    exact cf
  · show ab (-x) * (if -x < 0 then pe else pw) + ab (-y) * (if -y < 0 then pn else ps) + (pw + pe) * (W - ab (-x)) + (ps + pn) * (H - ab (-y)) = ab x * (if x < 0 then pw else pe) + ab y * (if y < 0 then ps else pn) + (pe + pw) * (W - ab x) + (pn + ps) * (H - ab y)
    rw [ab_flip, ab_flip, ab_neg, ab_neg, Int.add_comm pw pe, Int.add_comm ps pn]
theorem mir4 {pe pn pw ps v v' : Int} {x y a : Int} (z : PrS pe pn pw ps) (h : IsL pe pn pw ps (x, y, a) v) (h' : IsL pn pe ps pw (y, x, x * y - a) v') : v' = v := isl_of z h h' fun W H cf => by
  refine ⟨H, W, ?_, ?_⟩
  · have e : prdF (y, x, x * y - a) = prdF (x, y, a) := by
      show max (x * y - a + max 0 (-(y * x))) (max 0 (y * x) - (x * y - a)) = max (a + max 0 (-(x * y))) (max 0 (x * y) - a)
      rw [Int.mul_comm y x]; omega
    show CF (ab y) (ab x) (prdF (y, x, x * y - a)) (pn + ps) (pe + pw) H W
    rw [e]
    exact CF.swap cf
  · show ab y * (if y < 0 then ps else pn) + ab x * (if x < 0 then pw else pe) + (pn + ps) * (H - ab y) + (pe + pw) * (W - ab x) = ab x * (if x < 0 then pw else pe) + ab y * (if y < 0 then ps else pn) + (pe + pw) * (W - ab x) + (pn + ps) * (H - ab y)
    omega
theorem prc_scale (pe pn pw ps t : Int) (qs : List Rn) : prcR (pe * t) (pn * t) (pw * t) (ps * t) qs = prcR pe pn pw ps qs * t := by
  unfold prcR; grind
theorem isl_scale {pe pn pw ps t v v' : Int} {p : T3} (t0 : 0 ≤ t) (h : IsL pe pn pw ps p v) (h' : IsL (pe * t) (pn * t) (pw * t) (ps * t) p v') : v' = v * t := by
  obtain ⟨⟨qs, g, e, ev⟩, l⟩ := h
  obtain ⟨⟨qs', g', e', ev'⟩, l'⟩ := h'
  have h1 := l' _ g e
  rw [prc_scale, ev] at h1
  have h2 := Int.mul_le_mul_of_nonneg_right (l _ g' e') t0
  rw [prc_scale] at ev'
  omega
theorem sumR_cnt : ∀ {ps : List Rn}, GoodR ps → sumR ps = cnt "e" ps + cnt "n" ps + cnt "w" ps + cnt "s" ps
  | [], _ => rfl
  | p :: ps, h => by
    obtain ⟨m1, m2, m3, m4, m5, m6⟩ := str_ne
    have e : sumR (p :: ps) = p.2 + sumR ps := by simp [sumR]
    rw [e, sumR_cnt h.tail, cnt_cons, cnt_cons, cnt_cons, cnt_cons]
    have hm := (h p (List.mem_cons_self ..)).1
    obtain ⟨c, t⟩ := p
    rcases mem_enws hm with hc | hc | hc | hc <;> (have hc : c = _ := hc; subst hc; simp only [m1, m2, m3, m4, m5, m6, Ne.symm m1, Ne.symm m2, Ne.symm m3, Ne.symm m4, Ne.symm m5, Ne.symm m6, if_true, if_false]; try omega)
theorem prc_all (t : Int) {qs : List Rn} (g : GoodR qs) : prcR t t t t qs = t * sumR qs := by
  rw [sumR_cnt g]; unfold prcR; grind
theorem isl_all {t v : Int} {p : T3} (t0 : 0 ≤ t) (h : IsL t t t t p v) : v = t * stF p := by
  obtain ⟨⟨qs, g, e, ev⟩, l⟩ := h
  obtain ⟨g1, s1, p1, _⟩ := lwF_ok p
  have h1 := l _ g1 p1
  rw [prc_all t g1, s1] at h1
  have h2 := st_walk g
  rw [e] at h2
  have h3 := Int.mul_le_mul_of_nonneg_left h2 t0
  rw [prc_all t g] at ev
  omega
theorem isl_mono {pe pn pw ps a b c d v v' : Int} {p : T3} (h : IsL pe pn pw ps p v) (h' : IsL a b c d p v') (he : pe ≤ a) (hn : pn ≤ b) (hw : pw ≤ c) (hs : ps ≤ d) : v ≤ v' := by
  obtain ⟨⟨qs', g', e', ev'⟩, _⟩ := h'
  have h1 := h.le _ g' e'
  have m1 := Int.mul_le_mul_of_nonneg_right he (cnt_nn (c := "e") g')
  have m2 := Int.mul_le_mul_of_nonneg_right hn (cnt_nn (c := "n") g')
  have m3 := Int.mul_le_mul_of_nonneg_right hw (cnt_nn (c := "w") g')
  have m4 := Int.mul_le_mul_of_nonneg_right hs (cnt_nn (c := "s") g')
  unfold prcR at *
  omega
theorem isl_sub {pe pn pw ps v u t : Int} {p q : T3} (h : IsL pe pn pw ps p v) (h' : IsL pe pn pw ps q u) (ht : IsL pe pn pw ps (mu p q) t) : t ≤ v + u := by
  obtain ⟨⟨qs, g, e, rfl⟩, _⟩ := h
  obtain ⟨⟨qs', g', e', rfl⟩, _⟩ := h'
  rw [← prc_app]
  exact ht.le _ (fun r hr => (List.mem_append.mp hr).elim (g r) (g' r)) (by rw [posF_append, e, e'])
abbrev rowD (a b c d : Int) (q : T3) : D := .tup [.tup (p4S a b c d), tD q]
def pr_l_mirrors_right (T : Tx K mg) : Pr := fun ds B k e => ∃ (pe pn pw ps : Int) (p : T3) (v : Int), ds = [.lst (p4S pe pn pw ps), tD p, .int v] ∧ PrS pe pn pw ps ∧ SzS p ∧ IsL pe pn pw ps p v ∧ k (.bl true) B
theorem okD_l_mirrors_right (T : Tx K mg) : FnOk P w K mg base (L2.CX P w) 9 T.a_l_mirrors_right T.d_l_mirrors_right P_l_mirrors_right (spD K (pr_l_mirrors_right T)) := by
  refine T.F_l_mirrors_right.okX sc_l_mirrors_right (spD_len fun ds B k e h => by obtain ⟨pe, pn, pw, ps, p, v, rfl, z, sz, hv, hk⟩ := h; rfl) (fun cdv A outer s H vs Q E hr h => ?_)
  have G_Prices_least_price : FnOk P w K mg base (L2.CX P w) 7 _ _ _ _ := okD_Prices_least_price T
  have G_l_back : FnOk P w K mg base (L2.CX P w) 1 _ _ _ _ := okD_l_back T
  have G_l_made : FnOk P w K mg base (L2.CX P w) 6 _ _ _ _ := okD_l_made T
  have G_l_place : FnOk P w K mg base (L2.CX P w) 6 _ _ _ _ := okD_l_place T
  obtain ⟨G, ds, B, k, e, hs, hR, ⟨pe, pn, pw, ps, p, v, rfl, z, sz, hv, hk⟩, hK, hX⟩ := h
  refine ⟨_, (pss_cons (ps_asg (pv 0) (pg_unl rfl (pgs_cons (pg_name (i := 3) sc_l_mirrors_right.nd rfl (.inl rfl)) (pgs_cons (pg_name (i := 4) sc_l_mirrors_right.nd rfl (.inl rfl)) (pgs_cons (pg_name (i := 5) sc_l_mirrors_right.nd rfl (.inl rfl)) (pgs_cons (pg_name (i := 6) sc_l_mirrors_right.nd rfl (.inl rfl)) pgs_nil))))))
 (pss_cons (ps_asg (pv 1) (pg_tup rfl (pgs_cons (pg_name (i := 7) sc_l_mirrors_right.nd rfl (.inl rfl)) (pgs_cons (pg_name (i := 8) sc_l_mirrors_right.nd rfl (.inl rfl)) (pgs_cons (pg_name (i := 9) sc_l_mirrors_right.nd rfl (.inl rfl)) pgs_nil)))))
 (pss_cons (ps_set (i := 10) sc_l_mirrors_right.nd rfl (.inl rfl) (pe_lst (pa_cons (pe_tup (pa_cons (pe_tup (pa_cons (pv 5) (pa_cons (pv 4) (pa_cons (pv 3) (pa_cons (pv 6) pa_nil))))) (pa_cons (pe_tup (pa_cons (pe_un un_neg (pv 7)) (pa_cons (pv 8) (pa_cons (pe_un un_neg (pv 9)) pa_nil)))) pa_nil))) (pa_cons (pe_tup (pa_cons (pe_tup (pa_cons (pv 3) (pa_cons (pv 6) (pa_cons (pv 5) (pa_cons (pv 4) pa_nil))))) (pa_cons (pe_tup (pa_cons (pv 7) (pa_cons (pe_un un_neg (pv 8)) (pa_cons (pe_un un_neg (pv 9)) pa_nil)))) pa_nil))) pa_nil))))
 (pss_cons (ps_set (i := 10) sc_l_mirrors_right.nd rfl (.inl rfl) (pe_op op_cat (pv 10) (pe_lst (pa_cons (pe_tup (pa_cons (pe_tup (pa_cons (pv 5) (pa_cons (pv 6) (pa_cons (pv 3) (pa_cons (pv 4) pa_nil))))) (pa_cons (pe_tup (pa_cons (pe_un un_neg (pv 7)) (pa_cons (pe_un un_neg (pv 8)) (pa_cons (pv 9) pa_nil)))) pa_nil))) (pa_cons (pe_tup (pa_cons (pe_tup (pa_cons (pv 5) (pa_cons (pv 6) (pa_cons (pv 3) (pa_cons (pv 4) pa_nil))))) (pa_cons (pe_call G_l_back (hr.mono (by decide)) (by rfl) T.g_l_back T.F_l_back.kp T.b_l_back .nil passL (pa_cons (pv 1) pa_nil)) pa_nil))) pa_nil)))))
 (pss_cons (ps_set (i := 10) sc_l_mirrors_right.nd rfl (.inl rfl) (pe_op op_cat (pv 10) (pe_lst (pa_cons (pe_tup (pa_cons (pe_tup (pa_cons (pv 4) (pa_cons (pv 3) (pa_cons (pv 6) (pa_cons (pv 5) pa_nil))))) (pa_cons (pe_tup (pa_cons (pv 8) (pa_cons (pv 7) (pa_cons (pe_op op_sub (pe_op op_mulW (pv 7) (pv 8)) (pv 9)) pa_nil)))) pa_nil))) pa_nil))))
 (pss_cons (ps_for (passes_of rfl) rfl (pi_list (pv 10)) (pg_tup rfl (pgs_cons (pg_name (i := 11) sc_l_mirrors_right.nd rfl (.inl rfl)) (pgs_cons (pg_name (i := 12) sc_l_mirrors_right.nd rfl (.inl rfl)) pgs_nil)))
 (pss_one (ps_if (pt_cmpR op_ne (pe_meth (pe_call G_l_made (hr.mono (by decide)) (by rfl) T.g_l_made T.F_l_made.kp T.b_l_made .nil passL (pa_cons (pv 11) pa_nil)) T.cl_Prices T.M_Prices_least_price G_Prices_least_price (hr.mono (by decide)) T.b_Prices_least_price .nil passL (pa_cons (pe_call G_l_place (hr.mono (by decide)) (by rfl) T.g_l_place T.F_l_place.kp T.b_l_place .nil passL (pa_cons (pv 12) pa_nil)) pa_nil)) (pv 2) (nomark _))
 (pss_one (ps_ret pe_bl))
 pss_nil)))
 (pss_one (ps_ret pe_bl)))))))), run_body (ρ := [some (.lst (p4S pe pn pw ps)), some (tD p), some (.int v), none, none, none, none, none, none, none, none, none, none]) hs hR hK hX rfl ?_⟩
  have z2 : 2 ≤ sizeLine := by decide
  have z3 : 3 ≤ sizeLine := by decide
  have z4 : 4 ≤ sizeLine := by decide
  obtain ⟨x, y, a⟩ := p
  have bx : Bd 105 x := sz.x
  have by' : Bd 105 y := sz.y
  have ba : Bd 220 a := sz.a
  have cw : CMulW x y := (cmc (by apply Bd.mono; (repeat (first | assumption | exact Bd.lit 64 (by decide +kernel) | exact Bd.lit 2000 (by decide +kernel) | apply Bd.neg | apply Bd.fdiv | apply Bd.mul | apply Bd.add2 | apply Bd.sub2)); decide) (by apply Bd.mono; (repeat (first | assumption | exact Bd.lit 64 (by decide +kernel) | exact Bd.lit 2000 (by decide +kernel) | apply Bd.neg | apply Bd.fdiv | apply Bd.mul | apply Bd.add2 | apply Bd.sub2)); decide))
  have bd : Bd 230 (x * y - a) := ((bx.mul by').mono (show 210 ≤ 220 by decide) |>.sub ba).mono (by decide)
  refine ws_seq <| ws_asg <| we_var rfl <| wg_unl rfl <| wgs_cons <| wg_name <| wgs_cons <| wg_name <| wgs_cons <| wg_name <| wgs_cons <| wg_name <| wgs_nil ?_
  refine ws_seq <| ws_asg <| we_var rfl <| wg_tup rfl <| wgs_cons <| wg_name <| wgs_cons <| wg_name <| wgs_cons <| wg_name <| wgs_nil ?_
  refine ws_seq <| ws_set <| we_lst <| wa_cons <| we_tup <| wa_cons <| we_tup <| wa_cons <| we_var rfl <| wa_cons <| we_var rfl <| wa_cons <| we_var rfl <| wa_cons <| we_var rfl <| wa_nil ⟨z4, wa_cons <| we_tup <| wa_cons <| we_neg <| we_var rfl ⟨_, rfl, wa_cons <| we_var rfl <| wa_cons <| we_neg <| we_var rfl ⟨_, rfl, wa_nil ⟨z3, wa_nil ⟨z2, wa_cons <| we_tup <| wa_cons <| we_tup <| wa_cons <| we_var rfl <| wa_cons <| we_var rfl <| wa_cons <| we_var rfl <| wa_cons <| we_var rfl <| wa_nil ⟨z4, wa_cons <| we_tup <| wa_cons <| we_var rfl <| wa_cons <| we_neg <| we_var rfl ⟨_, rfl, wa_cons <| we_neg <| we_var rfl ⟨_, rfl, wa_nil ⟨z3, wa_nil ⟨z2, wa_nil ⟨z2, ?_⟩⟩⟩⟩⟩⟩⟩⟩⟩⟩⟩
  refine ws_seq <| ws_set <| we_op <| we_var rfl <| we_lst <| wa_cons <| we_tup <| wa_cons <| we_tup <| wa_cons <| we_var rfl <| wa_cons <| we_var rfl <| wa_cons <| we_var rfl <| wa_cons <| we_var rfl <| wa_nil ⟨z4, wa_cons <| we_tup <| wa_cons <| we_neg <| we_var rfl ⟨_, rfl, wa_cons <| we_neg <| we_var rfl ⟨_, rfl, wa_cons <| we_var rfl <| wa_nil ⟨z3, wa_nil ⟨z2, wa_cons <| we_tup <| wa_cons <| we_tup <| wa_cons <| we_var rfl <| wa_cons <| we_var rfl <| wa_cons <| we_var rfl <| wa_cons <| we_var rfl <| wa_nil ⟨z4, wa_cons <| we_call <| wa_cons <| we_var rfl <| wa_nil ⟨(x, y, a), rfl, cw, wa_nil ⟨z2, wa_nil ⟨z2, ro_catL (by show 4 ≤ sizeLine; exact z4) ?_⟩⟩⟩⟩⟩⟩⟩⟩⟩
  refine ws_seq <| ws_set <| we_op <| we_var rfl <| we_lst <| wa_cons <| we_tup <| wa_cons <| we_tup <| wa_cons <| we_var rfl <| wa_cons <| we_var rfl <| wa_cons <| we_var rfl <| wa_cons <| we_var rfl <| wa_nil ⟨z4, wa_cons <| we_tup <| wa_cons <| we_var rfl <| wa_cons <| we_var rfl <| wa_cons <| we_op <| we_op <| we_var rfl <| we_var rfl <| ro_i cw <| we_var rfl <| ro_i0 <| wa_nil ⟨z3, wa_nil ⟨z2, wa_nil ⟨(by show 1 ≤ sizeLine; decide), ro_catL (by show 5 ≤ sizeLine; decide) ?_⟩⟩⟩⟩
  refine ws_cut (fun ρ' B' => (∃ o11 o12, ρ' = [some (.lst (p4S pe pn pw ps)), some (tD (x, y, a)), some (.int v), some (.int pe), some (.int pn), some (.int pw), some (.int ps), some (.int x), some (.int y), some (.int a), some (.lst [rowD pw pn pe ps (-x, y, -a), rowD pe ps pw pn (x, -y, -a), rowD pw ps pe pn (-x, -y, a), rowD pw ps pe pn (bkT (x, y, a)), rowD pn pe ps pw (y, x, x * y - a)]), o11, o12]) ∧ B = B') ?_ ?_
  · refine ws_for_list <| we_var rfl ⟨_, rfl, fun i ρ' B' => (∃ o11 o12, ρ' = [some (.lst (p4S pe pn pw ps)), some (tD (x, y, a)), some (.int v), some (.int pe), some (.int pn), some (.int pw), some (.int ps), some (.int x), some (.int y), some (.int a), some (.lst [rowD pw pn pe ps (-x, y, -a), rowD pe ps pw pn (x, -y, -a), rowD pw ps pe pn (-x, -y, a), rowD pw ps pe pn (bkT (x, y, a)), rowD pn pe ps pw (y, x, x * y - a)]), o11, o12]) ∧ B = B', ⟨⟨_, _, rfl⟩, rfl⟩, fun i d ρ' B' hi hI => ?_, fun ρ' B' hI => hI⟩
    obtain ⟨⟨o11, o12, rfl⟩, rfl⟩ := hI
    obtain ⟨a1, a2, a3, a4, q, rfl, zq, sq, hq⟩ : ∃ (a1 a2 a3 a4 : Int) (q : T3), d = rowD a1 a2 a3 a4 q ∧ PrS a1 a2 a3 a4 ∧ SzP' q ∧ ∀ v', IsL a1 a2 a3 a4 q v' → v' = v := by
      have hm := List.mem_of_getElem? hi
      have hm : d ∈ [rowD pw pn pe ps (-x, y, -a), rowD pe ps pw pn (x, -y, -a), rowD pw ps pe pn (-x, -y, a), rowD pw ps pe pn (bkT (x, y, a)), rowD pn pe ps pw (y, x, x * y - a)] := hm
      simp only [List.mem_cons, List.not_mem_nil, or_false] at hm
      rcases hm with rfl | rfl | rfl | rfl | rfl
      · exact ⟨_, _, _, _, _, rfl, ⟨z.w, z.n, z.e, z.s⟩, ⟨bx.neg.mono (by decide), by'.mono (by decide), ba.neg.mono (by decide)⟩, fun v' h => mir0 z hv h⟩
      · exact ⟨_, _, _, _, _, rfl, ⟨z.e, z.s, z.w, z.n⟩, ⟨bx.mono (by decide), by'.neg.mono (by decide), ba.neg.mono (by decide)⟩, fun v' h => mir1 z hv h⟩
      · exact ⟨_, _, _, _, _, rfl, ⟨z.w, z.s, z.e, z.n⟩, ⟨bx.neg.mono (by decide), by'.neg.mono (by decide), ba.mono (by decide)⟩, fun v' h => mir2 (.inl rfl) z hv h⟩
      · exact ⟨_, _, _, _, _, rfl, ⟨z.w, z.s, z.e, z.n⟩, ⟨bx.neg.mono (by decide), by'.neg.mono (by decide), bd⟩, fun v' h => mir2 (.inr rfl) z hv h⟩
      · exact ⟨_, _, _, _, _, rfl, ⟨z.n, z.e, z.s, z.w⟩, ⟨by'.mono (by decide), bx.mono (by decide), bd⟩, fun v' h => mir4 z hv h⟩
    refine wg_tup rfl <| wgs_cons <| wg_name <| wgs_cons <| wg_name <| wgs_nil ?_
    refine ws_if <| wt_test <| we_op <| we_meth <| we_call <| wa_cons <| we_var rfl <| wa_nil ⟨true, a1, a2, a3, a4, rfl, zq, _, _, rfl, by decide +kernel, wa_cons <| we_call <| wa_cons <| we_var rfl <| wa_nil ⟨q, rfl, wa_nil ⟨a1, a2, a3, a4, q, rfl, zq, sq, fun v' hv' => we_var rfl <| ro_neI ⟨_, rfl, (fun h => absurd h (by simp [hq v' hv'])), (fun _ => ws_next ⟨⟨_, _, rfl⟩, rfl⟩)⟩⟩⟩⟩
  rintro _ _ ⟨⟨o11, o12, rfl⟩, rfl⟩
  exact ws_ret <| we_bl hk
end
end AW

set_option linter.all false
set_option maxRecDepth 100000
set_option maxHeartbeats 8000000
namespace AW
open PySem PySem.Spec PyProof.Rows L2 Fewest
variable [Tbs]
section
variable {P : Program} {w : World} {K : PySem.W.Frag} {mg : Str → Option Value} {base : Heap} [CDict K w "DIRECTIONS" L_DIRECTIONS]
def en4 : Nat → Str
  | 0 => "e"
  | 1 => "n"
  | 2 => "w"
  | _ => "s"
abbrev p4D (pe pn pw ps : Int) : D := .lst [.int pe, .int pn, .int pw, .int ps]
theorem ix_pl4 (pe pn pw ps : Int) (i : Nat) (h : i < 4) : atI [D.int pe, D.int pn, D.int pw, D.int ps] (0 + (i : Int)) = some (.int (pl4 pe pn pw ps (en4 i))) := by
  obtain ⟨m1, m2, m3, m4, m5, m6⟩ := str_ne
  match i, h with
  | 0, _ => simp [en4, pl4]; rfl
  | 1, _ => simp [en4, pl4, m1, Ne.symm m1]; rfl
  | 2, _ => simp [en4, pl4, m2, Ne.symm m2, m4, Ne.symm m4]; rfl
  | 3, _ => simp [en4, pl4, m3, Ne.symm m3, m5, Ne.symm m5, m6, Ne.symm m6]; rfl
theorem ix_cc (qs : List Rn) (i : Nat) (h : i < 4) : atI [D.int (cnt "e" qs), D.int (cnt "n" qs), D.int (cnt "w" qs), D.int (cnt "s" qs)] (0 + (i : Int)) = some (.int (cnt (en4 i) qs)) := by
  match i, h with
  | 0, _ => rfl
  | 1, _ => rfl
  | 2, _ => rfl
  | 3, _ => rfl
theorem sum_cc (pe pn pw ps : Int) (qs : List Rn) : ((List.range 4).map fun j => cnt (en4 j) qs * pl4 pe pn pw ps (en4 j)).sum = prcR pe pn pw ps qs := by
  obtain ⟨m1, m2, m3, m4, m5, m6⟩ := str_ne
  have e : List.range 4 = [0, 1, 2, 3] := rfl
  rw [e]
  simp only [List.map_cons, List.map_nil, List.sum_cons, List.sum_nil]
  have e0 : pl4 pe pn pw ps (en4 0) = pe := by simp [en4, pl4]
  have e1 : pl4 pe pn pw ps (en4 1) = pn := by simp [en4, pl4, m1, Ne.symm m1]
  have e2 : pl4 pe pn pw ps (en4 2) = pw := by simp [en4, pl4, m2, Ne.symm m2, m4, Ne.symm m4]
  have e3 : pl4 pe pn pw ps (en4 3) = ps := by simp [en4, pl4, m3, Ne.symm m3, m5, Ne.symm m5, m6, Ne.symm m6]
  rw [e0, e1, e2, e3]
  unfold prcR
  show cnt "e" qs * pe + (cnt "n" qs * pn + (cnt "w" qs * pw + (cnt "s" qs * ps + 0))) = _
  rw [Int.mul_comm pe, Int.mul_comm pn, Int.mul_comm pw, Int.mul_comm ps]
  omega
theorem cnt_le_sum {c : Str} : ∀ {ps : List Rn}, GoodR ps → cnt c ps ≤ sumR ps
  | [], _ => Int.le_refl _
  | q :: ps, g => by
    have h := cnt_le_sum (c := c) g.tail
    have e : sumR (q :: ps) = q.2 + sumR ps := by simp [sumR]
    have := g.head.2
    rw [cnt_cons, e]
    split <;> omega
theorem walk_sz {qs : List Rn} (g : GoodR qs) (b : Bd 104 (sumR qs)) : SzP' (posF qs) := by
  obtain ⟨b1, b2, b3⟩ := box_walk g
  have c1 := cnt_le_sum (c := "e") g
  have c2 := cnt_le_sum (c := "w") g
  have c3 := cnt_le_sum (c := "n") g
  have c4 := cnt_le_sum (c := "s") g
  have n1 := cnt_nn (c := "e") g
  have n2 := cnt_nn (c := "w") g
  have n3 := cnt_nn (c := "n") g
  have n4 := cnt_nn (c := "s") g
  have p1 : lotP qs ≤ sumR qs := by show max (cnt "e" qs) (cnt "w" qs) ≤ _; omega
  have p2 : lotQ qs ≤ sumR qs := by show max (cnt "n" qs) (cnt "s" qs) ≤ _; omega
  have q1 : 0 ≤ lotP qs := by show 0 ≤ max (cnt "e" qs) (cnt "w" qs); omega
  have q2 : 0 ≤ lotQ qs := by show 0 ≤ max (cnt "n" qs) (cnt "s" qs); omega
  have hm : lotP qs * lotQ qs ≤ sumR qs * sumR qs := Int.mul_le_mul p1 p2 q2 (by omega)
  have bm := b.mul b
  rw [ab_mulP] at b3
  generalize lotP qs = lp at *
  generalize lotQ qs = lq at *
  generalize lp * lq = m at *
  generalize sumR qs * sumR qs = m2 at *
  generalize (posF qs).1 * (posF qs).2.1 = t at *
  have h1 : ab (posF qs).2.2 ≤ m2 := by unfold ab at *; omega
  refine ⟨?_, ?_, ?_⟩
  · refine Bd.mono (k := 104) ?_ (by decide); unfold Bd ab at *; omega
  · refine Bd.mono (k := 104) ?_ (by decide); unfold Bd ab at *; omega
  · refine Bd.mono (k := 104 + 104) ?_ (by decide); unfold Bd ab at *; omega
def pr_l_walks_right (T : Tx K mg) : Pr := fun ds B k e => ∃ pe pn pw ps : Int, ds = [penF, pcD T pe pn pw ps, p4D pe pn pw ps] ∧ PrS pe pn pw ps ∧ B ≤ 600000 ∧ ∀ B', B' ≤ B + 60 → k (.bl true) B'
theorem okD_l_walks_right (T : Tx K mg) : FnOk P w K mg base (L2.CX P w) 9 T.a_l_walks_right T.d_l_walks_right P_l_walks_right (spD K (pr_l_walks_right T)) := by
  refine T.F_l_walks_right.okX sc_l_walks_right (spD_len fun ds B k e h => by obtain ⟨pe, pn, pw, ps, rfl, z, hB, hk⟩ := h; rfl) (fun cdv A outer s H vs Q E hr h => ?_)
  have G_Prices_least_price : FnOk P w K mg base (L2.CX P w) 7 _ _ _ _ := okD_Prices_least_price T
  have G_Prices_price_of : FnOk P w K mg base (L2.CX P w) 1 _ _ _ _ := okD_Prices_price_of T
  have G_Walk_init : FnOk P w K mg base (L2.CX P w) 5 _ _ _ _ := okD_Walk_init T
  have G_l_counts : FnOk P w K mg base (L2.CX P w) 1 _ _ _ _ := okD_l_counts T
  have G_l_draw : FnOk P w K mg base (L2.CX P w) 1 _ _ _ _ := okD_l_draw T
  have G_l_great : FnOk P w K mg base (L2.CX P w) 4 _ _ _ _ := okD_l_great T
  have G_l_led : FnOk P w K mg base (L2.CX P w) 2 _ _ _ _ := okD_l_led T
  have G_l_pick : FnOk P w K mg base (L2.CX P w) 2 _ _ _ _ := okD_l_pick T
  have G_l_place : FnOk P w K mg base (L2.CX P w) 6 _ _ _ _ := okD_l_place T
  obtain ⟨G, ds, B, k, e, hs, hR, ⟨pe, pn, pw, ps, rfl, z, hB, hk⟩, hK, hX⟩ := h
  refine ⟨_, (pss_cons (ps_setLc (i := 3) (te := (tTup (tCons (tCall (spD K (pr_l_pick T)) [] E0 (tCons (tVar 0) (tCons (tC (.str "enws")) tNil))) (tCons (tCall (spD K (pr_l_great T)) [] E0 (tCons (tVar 0) tNil)) tNil)))) (own := [("_law_k", 7)]) (g := gName 7) (by rfl) sc_l_walks_right.nd rfl rfl (sw_true rfl rfl rfl (by decide +kernel)) (pi_range1 (by rfl) T.n_range (pa_cons (pe_call G_l_draw (hr.mono (by decide)) (by rfl) T.g_l_draw T.F_l_draw.kp T.b_l_draw .nil passL (pa_cons (pv 0) (pa_cons pe_int pa_nil))) pa_nil)) (blkOk_by (own := [("_law_k", 7)]) (N := N_l_walks_right) (sc := defScope s_l_walks_right) (by decide +kernel)) (fun _ _ _ _ _ => pg_name (i := 7) sc_l_walks_right.nd rfl (Or.inl rfl)) (fun _ _ _ _ _ => pts_nil) (fun _ _ _ _ _ => (pe_tup (pa_cons (pe_call G_l_pick (hr.mono (by decide)) (by rfl) T.g_l_pick T.F_l_pick.kp T.b_l_pick .nil passL (pa_cons (pv 0) (pa_cons pe_str pa_nil))) (pa_cons (pe_call G_l_great (hr.mono (by decide)) (by rfl) T.g_l_great T.F_l_great.kp T.b_l_great .nil passL (pa_cons (pv 0) pa_nil)) pa_nil)))))
 (pss_cons (ps_asg (pe_tup (pa_cons (pe_make T.M_Walk G_Walk_init (hr.mono (by decide)) (by rfl) T.g_C_Walk T.b_Walk_init .nil passL (pa_cons (pv 3) pa_nil)) (pa_cons (pe_call G_l_counts (hr.mono (by decide)) (by rfl) T.g_l_counts T.F_l_counts.kp T.b_l_counts .nil passL (pa_cons (pv 3) pa_nil)) pa_nil))) (pg_tup rfl (pgs_cons (pg_name (i := 4) sc_l_walks_right.nd rfl (.inl rfl)) (pgs_cons (pg_name (i := 5) sc_l_walks_right.nd rfl (.inr rfl)) pgs_nil))))
 (pss_cons (ps_set (i := 6) sc_l_walks_right.nd rfl (.inl rfl) (pe_callB (cr_sum rfl) (by rfl) T.n_sum (by decide +kernel) (pa_cons (pe_lc (te := (tOp (rI CMulW fun i j => V.int (i * j)) (tOp (rIxL K) (tVar 5) (tVar 7)) (tOp (rIxL K) (tVar 2) (tVar 7)))) (own := [("_law_k", 7)]) (g := gName 7) (by rfl) sc_l_walks_right.nd (pi_range1 (by rfl) T.n_range (pa_cons pe_int pa_nil)) (blkOk_by (own := [("_law_k", 7)]) (N := N_l_walks_right) (sc := defScope s_l_walks_right) (by decide +kernel)) (fun _ _ _ _ _ => pg_name (i := 7) sc_l_walks_right.nd rfl (Or.inl rfl)) (fun _ _ _ _ _ => pts_nil) (fun _ _ _ _ _ => (pe_op op_mulW (pe_ix ix_list (pv 5) (pv 7) (fun _ _ => rfl)) (pe_ix ix_list (pv 2) (pv 7) (fun _ _ => rfl))))) pa_nil)))
 (pss_one (ps_ret (pe_and (pe_cmpR op_eq (pe_meth (pv 1) T.cl_Prices T.M_Prices_price_of G_Prices_price_of (hr.mono (by decide)) T.b_Prices_price_of .nil passL (pa_cons (pv 4) pa_nil)) (pv 6) (nomark _)) (pe_one (pe_cmpR op_le (pe_meth (pv 1) T.cl_Prices T.M_Prices_least_price G_Prices_least_price (hr.mono (by decide)) T.b_Prices_least_price .nil passL (pa_cons (pe_call G_l_place (hr.mono (by decide)) (by rfl) T.g_l_place T.F_l_place.kp T.b_l_place .nil passL (pa_cons (pe_call G_l_led (hr.mono (by decide)) (by rfl) T.g_l_led T.F_l_led.kp T.b_l_led .nil passL (pa_cons (pv 3) pa_nil)) pa_nil)) pa_nil)) (pv 6) (nomark _))))))))), run_body (ρ := [some penF, some (pcD T pe pn pw ps), some (p4D pe pn pw ps), none, none, none, none, none]) hs hR hK hX rfl ?_⟩
  have z2 : 2 ≤ sizeLine := by decide
  have zL : (4 : Nat) < sizeLine := by decide
  refine ws_cut (fun ρ' B' => (∃ qs : List Rn, ρ' = [some penF, some (pcD T pe pn pw ps), some (p4D pe pn pw ps), some (.lst (qs.map prD)), none, none, none, none] ∧ GoodR qs ∧ qs.length ≤ 8 ∧ Bd 104 (sumR qs)) ∧ B' ≤ B + 60) ?_ ?_
  · refine ws_set <| we_lc_range1 (E1 := E0) <| wa_cons <| we_call <| wa_cons <| we_var rfl <| wa_cons <| we_int <| wa_nil ⟨9, rfl, by decide, by decide, by omega, fun n n0 n1 => wa_nil ⟨n, rfl, by omega, by omega, Nat.lt_of_le_of_lt (show n.toNat ≤ 8 by omega) (by decide), fun i out B' => (∃ qs : List Rn, out = qs.map prD ∧ GoodR qs ∧ qs.length = i ∧ 0 ≤ sumR qs ∧ sumR qs ≤ i * 2 ^ 100) ∧ B' ≤ B + 1 + 7 * i, ⟨⟨[], rfl, (fun q hq => nomatch hq), rfl, by decide, by decide⟩, by omega⟩, fun i out B' hi hI => ?_, fun out B' _ hI => ?_⟩⟩
    · obtain ⟨⟨qs, rfl, g, hl, s0, s1⟩, hB'⟩ := hI
      have hi8 : i < 8 := by omega
      refine wt_yes ⟨fun _ => we_tup <| wa_cons <| we_call <| wa_cons <| we_var rfl <| wa_cons <| we_str <| wa_nil ⟨_, rfl, .inr ⟨"enws", rfl, by decide +kernel, by decide +kernel, by omega, fun c hc => wa_cons <| we_call <| wa_cons <| we_var rfl <| wa_nil ⟨rfl, by omega, fun t B2 t0 bt hB2 => wa_nil ⟨z2, ⟨qs ++ [(c, t)], by rw [List.map_append]; rfl, fun q hq => ?_, by rw [List.length_append, hl]; rfl, ?_, ?_⟩, by push_cast; omega⟩⟩⟩⟩, fun h => nomatch h⟩
      · rcases List.mem_append.mp hq with h | h
        · exact g q h
        · rw [List.mem_singleton] at h; subst h; exact ⟨hc, t0⟩
      · show 0 ≤ ((qs ++ [(c, t)]).map (·.2)).sum
        rw [List.map_append, List.sum_append]
        have : (qs.map (·.2)).sum = sumR qs := rfl
        simp only [List.map_cons, List.map_nil, List.sum_cons, List.sum_nil]
        omega
      · show ((qs ++ [(c, t)]).map (·.2)).sum ≤ _
        rw [List.map_append, List.sum_append]
        have : (qs.map (·.2)).sum = sumR qs := rfl
        simp only [List.map_cons, List.map_nil, List.sum_cons, List.sum_nil]
        push_cast
        unfold Bd at bt
        omega
    · obtain ⟨⟨qs, rfl, g, hl, s0, s1⟩, hB'⟩ := hI
      refine ⟨⟨qs, rfl, g, by omega, ?_⟩, by omega⟩
      have h8 : ((n.toNat : Nat) : Int) ≤ 8 := by omega
      unfold Bd
      omega
  rintro _ B1 ⟨⟨qs, rfl, g, hl, bs⟩, hB1⟩
  have bs3 : Bd 3000 (sumR qs) := bs.mono (by decide)
  have hlj := joinF_len qs
  have gj := joinF_good g
  have rn : RnOk (joinF qs) := RnOk.of gj (by omega) (by rw [joinF_sum g]; exact bs3)
  have pj : prcR pe pn pw ps (joinF qs) = prcR pe pn pw ps qs := by unfold prcR; rw [cnt_join g, cnt_join g, cnt_join g, cnt_join g]
  have hcb : ∀ c, Bd 3000 (cnt c qs) := fun c => Bd.of_le (by have := cnt_nn (c := c) g; have := cnt_le_sum (c := c) g; omega) (cnt_le_sum g) bs3
  refine ws_seq <| ws_asg <| we_tup <| wa_cons <| we_make <| wa_cons <| we_var rfl <| wa_nil ⟨_, rfl, .inl ⟨qs, rfl, ⟨by omega, g⟩, wa_cons <| we_call <| wa_cons <| we_var rfl <| wa_nil ⟨qs, rfl, by omega, wa_nil ⟨z2, wg_tup rfl <| wgs_cons <| wg_name <| wgs_cons <| wg_name <| wgs_nil ?_⟩⟩⟩⟩
  refine ws_seq <| ws_set <| we_sum <| wa_cons <| we_lc_range1 (E1 := E0) <| wa_cons <| we_int <| wa_nil ⟨_, rfl, by decide, by decide, by decide, fun i out B' => out = (List.range i).map (fun j => D.int (cnt (en4 j) qs * pl4 pe pn pw ps (en4 j))) ∧ B1 = B', ⟨rfl, rfl⟩, fun i out B' hi hI => ?_, fun out B' _ hI => ?_⟩
  · obtain ⟨rfl, rfl⟩ := hI
    have hi4 : i < 4 := by have : (4 : Int).toNat = 4 := rfl; omega
    have hpl := ix_pl4 pe pn pw ps i hi4
    have hcc := ix_cc qs i hi4
    have b1 := hcb (en4 i)
    have b2 : Bd 20 (pl4 pe pn pw ps (en4 i)) := by have := pl4_pos z (en4 i); unfold Bd; omega
    refine wt_yes ⟨fun _ => we_op <| we_op <| we_var rfl <| we_var rfl <| ro_ixL hcc <| we_op <| we_var rfl <| we_var rfl <| ro_ixL hpl <| ro_i (cmc (by apply Bd.mono; (repeat (first | assumption | exact Bd.lit 64 (by decide +kernel) | exact Bd.lit 2000 (by decide +kernel) | apply Bd.neg | apply Bd.fdiv | apply Bd.mul | apply Bd.add2 | apply Bd.sub2)); decide) (by apply Bd.mono; (repeat (first | assumption | exact Bd.lit 64 (by decide +kernel) | exact Bd.lit 2000 (by decide +kernel) | apply Bd.neg | apply Bd.fdiv | apply Bd.mul | apply Bd.add2 | apply Bd.sub2)); decide)) ⟨by rw [List.range_succ, List.map_append]; rfl, rfl⟩, fun h => nomatch h⟩
  obtain ⟨rfl, rfl⟩ := hI
  refine wa_nil ⟨(List.range 4).map fun j => cnt (en4 j) qs * pl4 pe pn pw ps (en4 j), by rw [List.map_map]; rfl, ?_⟩
  rw [sum_cc]
  refine ws_ret <| we_and <| we_op <| we_meth <| we_var rfl ⟨_, _, rfl, by decide +kernel, wa_cons <| we_var rfl <| wa_nil ⟨pe, pn, pw, ps, joinF qs, rfl, z, gj, rn, ?_⟩⟩
  rw [pj]
  refine we_var rfl <| ro_eqI ⟨_, rfl, (fun _ => ?_), (fun h => absurd h (by simp))⟩
  refine we_op <| we_meth <| we_var rfl ⟨_, _, rfl, by decide +kernel, wa_cons <| we_call <| wa_cons <| we_call <| wa_cons <| we_var rfl <| wa_nil ⟨false, qs, rfl, g, bs3, wa_nil ⟨posF qs, rfl, wa_nil ⟨pe, pn, pw, ps, posF qs, rfl, z, walk_sz g bs, fun v hv => we_var rfl <| ro_b0 ?_⟩⟩⟩⟩
  rw [decide_eq_true (hv.le _ g rfl)]
  exact hk _ (by omega)
end
end AW

set_option linter.all false
set_option maxRecDepth 100000
set_option maxHeartbeats 8000000
namespace AW
open PySem PySem.Spec PyProof.Rows L2 Fewest
variable [Tbs]
section
variable {P : Program} {w : World} {K : PySem.W.Frag} {mg : Str → Option Value} {base : Heap} [CDict K w "DIRECTIONS" L_DIRECTIONS]
structure PrT (pe pn pw ps : Int) : Prop where
  e : 1 ≤ pe ∧ pe ≤ 90
  n : 1 ≤ pn ∧ pn ≤ 90
  w : 1 ≤ pw ∧ pw ≤ 90
  s : 1 ≤ ps ∧ ps ≤ 90
theorem PrT.up {pe pn pw ps : Int} (h : PrT pe pn pw ps) : PrS pe pn pw ps := by
  obtain ⟨a, b, c, d⟩ := h
  exact ⟨by omega, by omega, by omega, by omega⟩
theorem sc_ok {a t : Int} (h : 1 ≤ a ∧ a ≤ 90) (ht : 1 ≤ t ∧ t ≤ 9) : 1 ≤ a * t ∧ a * t ≤ 1000 := by
  have h1 := Int.mul_le_mul h.1 ht.1 (by decide) (by omega)
  have h2 := Int.mul_le_mul h.2 ht.2 (by omega) (by decide)
  omega
theorem PrT.sc {pe pn pw ps t : Int} (h : PrT pe pn pw ps) (ht : 1 ≤ t ∧ t ≤ 9) : PrS (pe * t) (pn * t) (pw * t) (ps * t) := ⟨sc_ok h.e ht, sc_ok h.n ht, sc_ok h.w ht, sc_ok h.s ht⟩
theorem isl_bd {pe pn pw ps v : Int} {p : T3} (z : PrS pe pn pw ps) (sz : SzP' p) (h : IsL pe pn pw ps p v) : Bd 800 v := by
  obtain ⟨W, H, cf⟩ := cfp_ex z p
  obtain ⟨bW, bH⟩ := cfp_bd z sz cf
  rw [h.uniq (cf_isL cf)]
  have ew := z.e; have ww := z.w; have nn := z.n; have ss := z.s
  have bx := sz.x.ab
  have by' := sz.y.ab
  have q1 : Bd 20 (if p.1 < 0 then pw else pe) := by unfold Bd; split <;> omega
  have q2 : Bd 20 (if p.2.1 < 0 then ps else pn) := by unfold Bd; split <;> omega
  have q3 : Bd 20 (pe + pw) := by unfold Bd; omega
  have q4 : Bd 20 (pn + ps) := by unfold Bd; omega
  have r1 : Bd 721 ((pe + pw) * (W - ab p.1)) := (q3.mul (bW.sub (bx.mono (by decide)))).mono (by decide)
  have r2 : Bd 721 ((pn + ps) * (H - ab p.2.1)) := (q4.mul (bH.sub (by'.mono (by decide)))).mono (by decide)
  have r3 : Bd 721 (ab p.1 * (if p.1 < 0 then pw else pe)) := (bx.mul q1).mono (by decide)
  have r4 : Bd 721 (ab p.2.1 * (if p.2.1 < 0 then ps else pn)) := (by'.mul q2).mono (by decide)
  unfold lpF
  exact Bd.mono (((r3.add r4).add (r1.mono (by decide))).add (r2.mono (by decide))) (by decide)
theorem dear_row {pe pn pw ps : Int} (h : PrT pe pn pw ps) : ∀ j : Nat, j < 4 → ∃ x : Int, atI (p4S pe pn pw ps) (j : Int) = some (.int x) ∧ ∀ c, 0 ≤ c → c < 5 → ∃ a b c' d : Int, (p4S pe pn pw ps).set j (.int (x + 1 + c)) = p4S a b c' d ∧ PrS a b c' d ∧ pe ≤ a ∧ pn ≤ b ∧ pw ≤ c' ∧ ps ≤ d := by
  obtain ⟨he, hn, hw, hs⟩ := h
  intro j hj
  match j, hj with
  | 0, _ => exact ⟨pe, rfl, fun c c0 c1 => ⟨pe + 1 + c, pn, pw, ps, rfl, ⟨by omega, by omega, by omega, by omega⟩, by omega, by omega, by omega, by omega⟩⟩
  | 1, _ => exact ⟨pn, rfl, fun c c0 c1 => ⟨pe, pn + 1 + c, pw, ps, rfl, ⟨by omega, by omega, by omega, by omega⟩, by omega, by omega, by omega, by omega⟩⟩
  | 2, _ => exact ⟨pw, rfl, fun c c0 c1 => ⟨pe, pn, pw + 1 + c, ps, rfl, ⟨by omega, by omega, by omega, by omega⟩, by omega, by omega, by omega, by omega⟩⟩
  | 3, _ => exact ⟨ps, rfl, fun c c0 c1 => ⟨pe, pn, pw, ps + 1 + c, rfl, ⟨by omega, by omega, by omega, by omega⟩, by omega, by omega, by omega, by omega⟩⟩
def mulD (t : Int) : D → D
  | .int i => .int (i * t)
  | _ => .non
def pr_law (T : Tx K mg) : Pr := fun ds B k e => ∃ ns : List Int, ds = [.scr ns] ∧ ns.length ≤ 63 ∧ B = 0 ∧ ∀ B', k (.bl true) B'
theorem okD_law (T : Tx K mg) : FnOk P w K mg base (L2.CX P w) 12 T.a_law T.d_law P_law (spD K (pr_law T)) := by
  refine T.F_law.okX sc_law (spD_len fun ds B k e h => by obtain ⟨ns, rfl, hl, rfl, hk⟩ := h; rfl) (fun cdv A outer s H vs Q E hr h => ?_)
  have G_Prices_least_price : FnOk P w K mg base (L2.CX P w) 7 _ _ _ _ := okD_Prices_least_price T
  have G_l_begin : FnOk P w K mg base (L2.CX P w) 1 _ _ _ _ := okD_l_begin T
  have G_l_behind : FnOk P w K mg base (L2.CX P w) 1 _ _ _ _ := okD_l_behind T
  have G_l_draw : FnOk P w K mg base (L2.CX P w) 1 _ _ _ _ := okD_l_draw T
  have G_l_made : FnOk P w K mg base (L2.CX P w) 6 _ _ _ _ := okD_l_made T
  have G_l_mirrors_right : FnOk P w K mg base (L2.CX P w) 9 _ _ _ _ := okD_l_mirrors_right T
  have G_l_pick : FnOk P w K mg base (L2.CX P w) 2 _ _ _ _ := okD_l_pick T
  have G_l_place : FnOk P w K mg base (L2.CX P w) 6 _ _ _ _ := okD_l_place T
  have G_l_spot : FnOk P w K mg base (L2.CX P w) 6 _ _ _ _ := okD_l_spot T
  have G_l_walks_right : FnOk P w K mg base (L2.CX P w) 9 _ _ _ _ := okD_l_walks_right T
  have G_steps : FnOk P w K mg base (L2.CX P w) 4 _ _ _ _ := okD_steps T
  obtain ⟨G, ds, B, k, e, hs, hR, ⟨ns, rfl, hl, rfl, hk⟩, hK, hX⟩ := h
  refine ⟨_, (pss_cons (ps_set (i := 1) sc_law.nd rfl (.inr rfl) (pe_call G_l_begin (hr.mono (by decide)) (by rfl) T.g_l_begin T.F_l_begin.kp T.b_l_begin .nil passL (pa_cons (pv 0) pa_nil)))
 (pss_cons (ps_for (passes_of rfl) rfl (pi_range1 (by rfl) T.n_range (pa_cons (pe_op op_add pe_int (pe_callB (call_min2 rfl) (by rfl) T.n_min (by decide +kernel) (pa_cons pe_int (pa_cons (pe_callB call_len_seq (by rfl) T.n_len (by decide +kernel) (pa_cons (pv 0) pa_nil)) pa_nil)))) pa_nil)) (pg_name (i := 2) sc_law.nd rfl (.inl rfl))
 (pss_cons (ps_asg (pe_tup (pa_cons (pe_lc (te := (tOp (rI0 fun i j => V.int (i + j)) (tC (.int 1)) (tCall (spD K (pr_l_draw T)) [] E0 (tCons (tVar 1) (tCons (tCall (spD K (pr_l_pick T)) [] E0 (tCons (tVar 1) (tCons (tLst (tCons (tC (.int 2)) (tCons (tC (.int 9)) (tCons (tC (.int 90)) tNil)))) tNil))) tNil))))) (own := [("_law_k", 12)]) (g := gName 12) (by rfl) sc_law.nd (pi_range1 (by rfl) T.n_range (pa_cons pe_int pa_nil)) (blkOk_by (own := [("_law_k", 12)]) (N := N_law) (sc := defScope s_law) (by decide +kernel)) (fun _ _ _ _ _ => pg_name (i := 12) sc_law.nd rfl (Or.inl rfl)) (fun _ _ _ _ _ => pts_nil) (fun _ _ _ _ _ => (pe_op op_add pe_int (pe_call G_l_draw (hr.mono (by decide)) (by rfl) T.g_l_draw T.F_l_draw.kp T.b_l_draw .nil passL (pa_cons (pv 1) (pa_cons (pe_call G_l_pick (hr.mono (by decide)) (by rfl) T.g_l_pick T.F_l_pick.kp T.b_l_pick .nil passL (pa_cons (pv 1) (pa_cons (pe_lst (pa_cons pe_int (pa_cons pe_int (pa_cons pe_int pa_nil)))) pa_nil))) pa_nil)))))) (pa_cons (pe_op op_add pe_int (pe_call G_l_draw (hr.mono (by decide)) (by rfl) T.g_l_draw T.F_l_draw.kp T.b_l_draw .nil passL (pa_cons (pv 1) (pa_cons pe_int pa_nil)))) pa_nil))) (pg_tup rfl (pgs_cons (pg_name (i := 3) sc_law.nd rfl (.inl rfl)) (pgs_cons (pg_name (i := 4) sc_law.nd rfl (.inr rfl)) pgs_nil))))
 (pss_cons (ps_par3 (i := 5) (j := 6) (l := 7) (by rfl) sc_law.nd rfl rfl rfl (by decide) (by decide) (by decide) rfl rfl rfl (pa_cons (pe_call G_l_made (hr.mono (by decide)) (by rfl) T.g_l_made T.F_l_made.kp T.b_l_made .nil passL (pa_cons (pv 3) pa_nil)) (pa_cons (pe_call G_l_spot (hr.mono (by decide)) (by rfl) T.g_l_spot T.F_l_spot.kp T.b_l_spot .nil passL (pa_cons (pv 1) pa_nil)) (pa_cons (pe_call G_l_spot (hr.mono (by decide)) (by rfl) T.g_l_spot T.F_l_spot.kp T.b_l_spot .nil passL (pa_cons (pv 1) pa_nil)) pa_nil))) (by rfl))
 (pss_cons (ps_set (i := 8) sc_law.nd rfl (.inl rfl) (pe_meth (pv 5) T.cl_Prices T.M_Prices_least_price G_Prices_least_price (hr.mono (by decide)) T.b_Prices_least_price .nil passL (pa_cons (pe_call G_l_place (hr.mono (by decide)) (by rfl) T.g_l_place T.F_l_place.kp T.b_l_place .nil passL (pa_cons (pv 6) pa_nil)) pa_nil)))
 (pss_cons (ps_if (pt_cmpR op_ne (pe_meth (pe_call G_l_made (hr.mono (by decide)) (by rfl) T.g_l_made T.F_l_made.kp T.b_l_made .nil passL (pa_cons (pe_lc (te := (tOp (rI CMulW fun i j => V.int (i * j)) (tVar 13) (tVar 4))) (own := [("_law_price", 13)]) (g := gName 13) (by rfl) sc_law.nd (pi_list (pv 3)) (blkOk_by (own := [("_law_price", 13)]) (N := N_law) (sc := defScope s_law) (by decide +kernel)) (fun _ _ _ _ _ => pg_name (i := 13) sc_law.nd rfl (Or.inl rfl)) (fun _ _ _ _ _ => pts_nil) (fun _ _ _ _ _ => (pe_op op_mulW (pv 13) (pv 4)))) pa_nil)) T.cl_Prices T.M_Prices_least_price G_Prices_least_price (hr.mono (by decide)) T.b_Prices_least_price .nil passL (pa_cons (pe_call G_l_place (hr.mono (by decide)) (by rfl) T.g_l_place T.F_l_place.kp T.b_l_place .nil passL (pa_cons (pv 6) pa_nil)) pa_nil)) (pe_op op_mulW (pv 8) (pv 4)) (nomark _))
 (pss_one (ps_ret pe_bl))
 pss_nil)
 (pss_cons (ps_if (pt_cmpR op_ne (pe_meth (pe_call G_l_made (hr.mono (by decide)) (by rfl) T.g_l_made T.F_l_made.kp T.b_l_made .nil passL (pa_cons (pe_lst (pa_cons (pv 4) (pa_cons (pv 4) (pa_cons (pv 4) (pa_cons (pv 4) pa_nil))))) pa_nil)) T.cl_Prices T.M_Prices_least_price G_Prices_least_price (hr.mono (by decide)) T.b_Prices_least_price .nil passL (pa_cons (pe_call G_l_place (hr.mono (by decide)) (by rfl) T.g_l_place T.F_l_place.kp T.b_l_place .nil passL (pa_cons (pv 6) pa_nil)) pa_nil)) (pe_op op_mulW (pv 4) (pe_call G_steps (hr.mono (by decide)) (by rfl) T.g_steps T.F_steps.kp T.b_steps .nil passL (pa_cons (pe_call G_l_place (hr.mono (by decide)) (by rfl) T.g_l_place T.F_l_place.kp T.b_l_place .nil passL (pa_cons (pv 6) pa_nil)) pa_nil))) (nomark _))
 (pss_one (ps_ret pe_bl))
 pss_nil)
 (pss_cons (ps_if (PW.pt (pw_or (pt_not (pt_val (pe_call G_l_mirrors_right (hr.mono (by decide)) (by rfl) T.g_l_mirrors_right T.F_l_mirrors_right.kp T.b_l_mirrors_right .nil passL (pa_cons (pv 3) (pa_cons (pv 6) (pa_cons (pv 8) pa_nil)))))) (pw_or1 (pt_not (pt_val (pe_call G_l_walks_right (hr.mono (by decide)) (by rfl) T.g_l_walks_right T.F_l_walks_right.kp T.b_l_walks_right .nil passL (pa_cons (pv 1) (pa_cons (pv 5) (pa_cons (pv 3) pa_nil)))))))))
 (pss_one (ps_ret pe_bl))
 pss_nil)
 (pss_cons (ps_par (i := 9) (j := 10) (by rfl) sc_law.nd rfl rfl (by decide) rfl rfl (pa_cons (pe_callTy call_list_of (by rfl) T.n_list (by decide +kernel) (pa_cons (pv 3) pa_nil)) (pa_cons (pe_call G_l_draw (hr.mono (by decide)) (by rfl) T.g_l_draw T.F_l_draw.kp T.b_l_draw .nil passL (pa_cons (pv 1) (pa_cons pe_int pa_nil))) pa_nil)) (by rfl))
 (pss_cons (ps_asg (pe_op op_add (pe_op op_add (pe_ix ix_list (pv 9) (pv 10) (fun _ _ => rfl)) pe_int) (pe_call G_l_draw (hr.mono (by decide)) (by rfl) T.g_l_draw T.F_l_draw.kp T.b_l_draw .nil passL (pa_cons (pv 1) (pa_cons pe_int pa_nil)))) (pg_sub (pv 9) (pv 10) set_list))
 (pss_cons (ps_if (pt_cmpR op_lt (pe_meth (pe_call G_l_made (hr.mono (by decide)) (by rfl) T.g_l_made T.F_l_made.kp T.b_l_made .nil passL (pa_cons (pv 9) pa_nil)) T.cl_Prices T.M_Prices_least_price G_Prices_least_price (hr.mono (by decide)) T.b_Prices_least_price .nil passL (pa_cons (pe_call G_l_place (hr.mono (by decide)) (by rfl) T.g_l_place T.F_l_place.kp T.b_l_place .nil passL (pa_cons (pv 6) pa_nil)) pa_nil)) (pv 8) (nomark _))
 (pss_one (ps_ret pe_bl))
 pss_nil)
 (pss_cons (ps_set (i := 11) sc_law.nd rfl (.inl rfl) (pe_call G_l_behind (hr.mono (by decide)) (by rfl) T.g_l_behind T.F_l_behind.kp T.b_l_behind .nil passL (pa_cons (pv 6) (pa_cons (pv 7) pa_nil))))
 (pss_one (ps_if (pt_cmpR op_gt (pe_meth (pv 5) T.cl_Prices T.M_Prices_least_price G_Prices_least_price (hr.mono (by decide)) T.b_Prices_least_price .nil passL (pa_cons (pe_call G_l_place (hr.mono (by decide)) (by rfl) T.g_l_place T.F_l_place.kp T.b_l_place .nil passL (pa_cons (pv 11) pa_nil)) pa_nil)) (pe_op op_add (pv 8) (pe_meth (pv 5) T.cl_Prices T.M_Prices_least_price G_Prices_least_price (hr.mono (by decide)) T.b_Prices_least_price .nil passL (pa_cons (pe_call G_l_place (hr.mono (by decide)) (by rfl) T.g_l_place T.F_l_place.kp T.b_l_place .nil passL (pa_cons (pv 7) pa_nil)) pa_nil))) (nomark _))
 (pss_one (ps_ret pe_bl))
 pss_nil)))))))))))))
 (pss_one (ps_ret pe_bl)))), run_body (ρ := [some (.scr ns), none, none, none, none, none, none, none, none, none, none, none, none, none]) hs hR hK hX rfl ?_⟩
  have z2 : 2 ≤ sizeLine := by decide
  refine ws_seq <| ws_set <| we_call <| wa_cons <| we_var rfl <| wa_nil ⟨ns, rfl, hl, Int.le_refl _, ?_⟩
  refine ws_cut (fun ρ' B' => ∃ o2 o3 o4 o5 o6 o7 o8 o9 o10 o11 o12 o13, ρ' = [some (.scr ns), some penF, o2, o3, o4, o5, o6, o7, o8, o9, o10, o11, o12, o13]) ?_ ?_
  · refine ws_for_range1 <| wa_cons <| we_op <| we_int <| we_min2 <| wa_cons <| we_int <| wa_cons <| we_lenS <| wa_cons <| we_var rfl <| wa_nil ⟨_, rfl, wa_nil ⟨_, _, rfl, ro_i0 <| wa_nil ⟨_, rfl, by split <;> omega, by split <;> omega, fun i ρ' B' => (∃ o2 o3 o4 o5 o6 o7 o8 o9 o10 o11 o12 o13, ρ' = [some (.scr ns), some penF, o2, o3, o4, o5, o6, o7, o8, o9, o10, o11, o12, o13]) ∧ B' ≤ 300 * i, ⟨⟨_, _, _, _, _, _, _, _, _, _, _, _, rfl⟩, by omega⟩, fun i ρ' B' hi hI => ?_, fun ρ' B' hI => hI.1⟩⟩⟩
    obtain ⟨⟨o2, o3, o4, o5, o6, o7, o8, o9, o10, o11, o12, o13, rfl⟩, hB'⟩ := hI
    have hi9 : i ≤ 9 := by
      have : i < (1 + if (ns.length : Int) < 2 then (ns.length : Int) else 2).toNat := hi
      split at this <;> omega
    refine wg_name ?_
    obtain ⟨o2, eo2⟩ : ∃ o : Option D, o = some (.int (0 + i)) := ⟨_, rfl⟩
    rw [← eo2]
    clear eo2
    refine ws_cut (fun ρ' B2 => ∃ pe pn pw ps t : Int, ρ' = [some (.scr ns), some penF, o2, some (p4D pe pn pw ps), some (.int t), o5, o6, o7, o8, o9, o10, o11, o12, o13] ∧ PrT pe pn pw ps ∧ (1 ≤ t ∧ t ≤ 9) ∧ B2 ≤ 300 * i + 10) ?_ ?_
    · refine ws_asg <| we_tup <| wa_cons <| we_lc_range1 (E1 := E0) <| wa_cons <| we_int <| wa_nil ⟨_, rfl, by decide, by decide, by decide, fun j out B3 => (∃ xs : List Int, out = xs.map D.int ∧ xs.length = j ∧ ∀ x ∈ xs, 1 ≤ x ∧ x ≤ 90) ∧ B3 ≤ B' + 2 * j, ⟨⟨[], rfl, rfl, fun x hx => by cases hx⟩, by omega⟩, fun j out B3 hj hI => ?_, fun out B3 _ hI => ?_⟩
      · obtain ⟨⟨xs, rfl, hl2, hx⟩, hB3⟩ := hI
        have hj4 : j < 4 := by have : (4 : Int).toNat = 4 := rfl; omega
        refine wt_yes ⟨fun _ => we_op <| we_int <| we_call <| wa_cons <| we_var rfl <| wa_cons <| we_call <| wa_cons <| we_var rfl <| wa_cons <| we_lst <| wa_cons <| we_int <| wa_cons <| we_int <| wa_cons <| we_int <| wa_nil ⟨Nat.le_of_ble_eq_true rfl, wa_nil ⟨_, rfl, .inl ⟨_, rfl, by show 0 < 3; decide, by show 3 ≤ 1000000; decide, by omega, fun d hd => ?_⟩⟩⟩, fun h => nomatch h⟩
        obtain ⟨n, rfl, n1, n2⟩ : ∃ n : Int, d = .int n ∧ 1 ≤ n ∧ n ≤ 90 := by
          simp only [List.mem_cons, List.not_mem_nil, or_false] at hd
          rcases hd with rfl | rfl | rfl
          · exact ⟨_, rfl, by decide, by decide⟩
          · exact ⟨_, rfl, by decide, by decide⟩
          · exact ⟨_, rfl, by decide, by decide⟩
        refine wa_nil ⟨n, rfl, by omega, by omega, by omega, fun c c0 c1 => ro_i0 ⟨⟨xs ++ [1 + c], by rw [List.map_append]; rfl, by rw [List.length_append, hl2]; rfl, fun x hx' => ?_⟩, by push_cast; omega⟩⟩
        rcases List.mem_append.mp hx' with h | h
        · exact hx x h
        · rw [List.mem_singleton] at h; subst h; exact ⟨by omega, by omega⟩
      · obtain ⟨⟨xs, rfl, hl2, hx⟩, hB3⟩ := hI
        have h4 : (4 : Int).toNat = 4 := rfl
        rw [h4] at hl2 hB3
        match xs, hl2, hx with
        | [a, b, c, d], _, hx => exact wa_cons <| we_op <| we_int <| we_call <| wa_cons <| we_var rfl <| wa_cons <| we_int <| wa_nil ⟨9, rfl, by decide, by decide, by omega, fun t t0 t1 => ro_i0 <| wa_nil ⟨z2, wg_tup rfl <| wgs_cons <| wg_name <| wgs_cons <| wg_name <| wgs_nil ⟨a, b, c, d, 1 + t, rfl, ⟨hx a (by simp), hx b (by simp), hx c (by simp), hx d (by simp)⟩, by omega, by omega⟩⟩⟩
    rintro _ B2 ⟨pe, pn, pw, ps, t, rfl, pz, ht, hB2⟩
    have z := pz.up
    refine ws_cut (fun ρ' B3 => ∃ p q : T3, ρ' = [some (.scr ns), some penF, o2, some (p4D pe pn pw ps), some (.int t), some (pcD T pe pn pw ps), some (tD p), some (tD q), o8, o9, o10, o11, o12, o13] ∧ SzS p ∧ SzS q ∧ B3 ≤ 300 * i + 130) ?_ ?_
    · exact ws_par3 <| wa_cons <| we_call <| wa_cons <| we_var rfl <| wa_nil ⟨false, pe, pn, pw, ps, rfl, z, wa_cons <| we_call <| wa_cons <| we_var rfl <| wa_nil ⟨rfl, by omega, fun p B4 sp hB4 => wa_cons <| we_call <| wa_cons <| we_var rfl <| wa_nil ⟨rfl, by omega, fun q B5 sq hB5 => wa_nil ⟨_, _, _, rfl, p, q, rfl, sp, sq, by omega⟩⟩⟩⟩
    rintro _ B3 ⟨p, q, rfl, sp, sq, hB3⟩
    refine ws_seq <| ws_set <| we_meth <| we_var rfl ⟨_, _, rfl, by decide +kernel, wa_cons <| we_call <| wa_cons <| we_var rfl <| wa_nil ⟨p, rfl, wa_nil ⟨pe, pn, pw, ps, p, rfl, z, sp.up, fun v hv => ?_⟩⟩⟩
    have bv := isl_bd z sp.up hv
    have bt : Bd 20 t := by unfold Bd; omega
    refine ws_cut (fun ρ' B4 => ∃ o12 o13, ρ' = [some (.scr ns), some penF, o2, some (p4D pe pn pw ps), some (.int t), some (pcD T pe pn pw ps), some (tD p), some (tD q), some (.int v), o9, o10, o11, o12, o13] ∧ B3 = B4) ?_ ?_
    · refine ws_if <| wt_test <| we_op <| we_meth <| we_call <| wa_cons <| we_lc_mapL (f := mulD t) (E1 := E0) <| we_var rfl ⟨_, rfl, by show 4 < sizeLine; decide, fun x hx k' hk' => ?_, wa_nil ⟨false, pe * t, pn * t, pw * t, ps * t, rfl, pz.sc ht, _, _, rfl, by decide +kernel, wa_cons <| we_call <| wa_cons <| we_var rfl <| wa_nil ⟨p, rfl, wa_nil ⟨_, _, _, _, p, rfl, pz.sc ht, sp.up, fun v' hv' => we_op <| we_var rfl <| we_var rfl <| ro_i (cmc (by apply Bd.mono; (repeat (first | assumption | exact Bd.lit 64 (by decide +kernel) | exact Bd.lit 2000 (by decide +kernel) | apply Bd.neg | apply Bd.fdiv | apply Bd.mul | apply Bd.add2 | apply Bd.sub2)); decide) (by apply Bd.mono; (repeat (first | assumption | exact Bd.lit 64 (by decide +kernel) | exact Bd.lit 2000 (by decide +kernel) | apply Bd.neg | apply Bd.fdiv | apply Bd.mul | apply Bd.add2 | apply Bd.sub2)); decide)) <| ro_neI ⟨_, rfl, (fun h => absurd h (by simp [isl_scale (by omega) hv hv'])), (fun _ => ws_next ⟨_, _, rfl, rfl⟩)⟩⟩⟩⟩⟩
      obtain ⟨j, rfl, bj⟩ : ∃ j : Int, x = .int j ∧ Bd 20 j := by
        have h1 := pz.e; have h2 := pz.n; have h3 := pz.w; have h4 := pz.s
        simp only [List.mem_cons, List.not_mem_nil, or_false] at hx
        rcases hx with rfl | rfl | rfl | rfl
        · exact ⟨_, rfl, by unfold Bd; omega⟩
        · exact ⟨_, rfl, by unfold Bd; omega⟩
        · exact ⟨_, rfl, by unfold Bd; omega⟩
        · exact ⟨_, rfl, by unfold Bd; omega⟩
      exact we_op <| we_var rfl <| we_var rfl <| ro_i (cmc (by apply Bd.mono; (repeat (first | assumption | exact Bd.lit 64 (by decide +kernel) | exact Bd.lit 2000 (by decide +kernel) | apply Bd.neg | apply Bd.fdiv | apply Bd.mul | apply Bd.add2 | apply Bd.sub2)); decide) (by apply Bd.mono; (repeat (first | assumption | exact Bd.lit 64 (by decide +kernel) | exact Bd.lit 2000 (by decide +kernel) | apply Bd.neg | apply Bd.fdiv | apply Bd.mul | apply Bd.add2 | apply Bd.sub2)); decide)) hk'
    clear o12 o13
    rintro _ _ ⟨o12, o13, rfl, rfl⟩
    have zt : PrS t t t t := ⟨by omega, by omega, by omega, by omega⟩
    have bst : Bd 400 (stF p) := Bd.mono (st_bd (p := p) (k := 230) (sp.x.mono (by decide)) (sp.y.mono (by decide)) (sp.a.mono (by decide))) (by decide)
    refine ws_seq <| ws_if <| wt_test <| we_op <| we_meth <| we_call <| wa_cons <| we_lst <| wa_cons <| we_var rfl <| wa_cons <| we_var rfl <| wa_cons <| we_var rfl <| wa_cons <| we_var rfl <| wa_nil ⟨Nat.le_of_ble_eq_true rfl, wa_nil ⟨false, t, t, t, t, rfl, zt, _, _, rfl, by decide +kernel, wa_cons <| we_call <| wa_cons <| we_var rfl <| wa_nil ⟨p, rfl, wa_nil ⟨_, _, _, _, p, rfl, zt, sp.up, fun v' hv' => we_op <| we_var rfl <| we_call <| wa_cons <| we_call <| wa_cons <| we_var rfl <| wa_nil ⟨p, rfl, wa_nil ⟨_, rfl, .inl ⟨p, rfl, sp.x.mono (by decide), sp.y.mono (by decide), sp.a.mono (by decide), ro_i (cmc (by apply Bd.mono; (repeat (first | assumption | exact Bd.lit 64 (by decide +kernel) | exact Bd.lit 2000 (by decide +kernel) | apply Bd.neg | apply Bd.fdiv | apply Bd.mul | apply Bd.add2 | apply Bd.sub2)); decide) (by apply Bd.mono; (repeat (first | assumption | exact Bd.lit 64 (by decide +kernel) | exact Bd.lit 2000 (by decide +kernel) | apply Bd.neg | apply Bd.fdiv | apply Bd.mul | apply Bd.add2 | apply Bd.sub2)); decide)) <| ro_neI ⟨_, rfl, (fun h => absurd h (by simp [isl_all (by omega) hv'])), (fun _ => ws_next ?_)⟩⟩⟩⟩⟩⟩⟩⟩
    refine ws_cut (fun ρ' B4 => ρ' = [some (.scr ns), some penF, o2, some (p4D pe pn pw ps), some (.int t), some (pcD T pe pn pw ps), some (tD p), some (tD q), some (.int v), o9, o10, o11, o12, o13] ∧ B4 ≤ 300 * i + 200) ?_ ?_
    · refine ws_if <| wt_or <| wt_not <| wt_val <| we_call <| wa_cons <| we_var rfl <| wa_cons <| we_var rfl <| wa_cons <| we_var rfl <| wa_nil ⟨pe, pn, pw, ps, p, v, rfl, z, sp, hv, ⟨_, rfl, (fun h => nomatch h), (fun _ => ?_)⟩⟩
      exact wt_not <| wt_val <| we_call <| wa_cons <| we_var rfl <| wa_cons <| we_var rfl <| wa_cons <| we_var rfl <| wa_nil ⟨pe, pn, pw, ps, rfl, z, by omega, fun B5 hB5 => ⟨_, rfl, (fun h => nomatch h), (fun _ => ws_next ⟨rfl, by omega⟩)⟩⟩
    rintro _ B4 ⟨rfl, hB4⟩
    refine wx_own <| wx_seq <| wx_parW <| waw_cons <| wew_copyL <| wa_cons <| we_var rfl <| wa_nil ⟨_, rfl, fun ad => waw_cons <| wew_we <| we_call <| wa_cons <| we_var rfl <| wa_cons <| we_int <| wa_nil ⟨4, rfl, by decide, by decide, by omega, fun m m0 m1 => waw_nil ⟨_, _, rfl, ?_⟩⟩⟩
    obtain ⟨j, rfl⟩ := Int.eq_ofNat_of_zero_le m0
    have hj4 : j < 4 := by omega
    obtain ⟨x, hat, hset⟩ := dear_row pz j hj4
    refine wx_seq <| wx_itemW (i := 9) rfl <| wew_op <| wew_op <| wew_ixV <| wew_we <| we_var rfl <| wew_we <| we_var rfl ⟨ad, 0, _, _, _, rfl, rfl, rfl, hat, wew_we <| we_int <| ro_i0 <| wew_we <| we_call <| wa_cons <| we_var rfl <| wa_cons <| we_int <| wa_nil ⟨5, rfl, by decide, by decide, by omega, fun c c0 c1 => ro_i0 <| we_var rfl ⟨0, _, j, rfl, rfl, by show j < 4; exact hj4, ?_⟩⟩⟩
    obtain ⟨a', b', c', d', es, za, ge, gn, gw, gs⟩ := hset c c0 c1
    have es' : ([(ad, OC.list (p4S pe pn pw ps))].set 0 (ad, OC.list ((p4S pe pn pw ps).set j (.int (x + 1 + c))))) = [(ad, OC.list (p4S a' b' c' d'))] := by rw [es]; rfl
    rw [es']
    refine wx_tell (i := 9) rfl <| wx_ws ?_
    refine ws_seq <| ws_if <| wt_test <| we_op <| we_meth <| we_call <| wa_cons <| we_var rfl <| wa_nil ⟨false, a', b', c', d', rfl, za, _, _, rfl, by decide +kernel, wa_cons <| we_call <| wa_cons <| we_var rfl <| wa_nil ⟨p, rfl, wa_nil ⟨_, _, _, _, p, rfl, za, sp.up, fun v' hv' => we_var rfl <| ro_b0 ⟨_, rfl, (fun h => absurd (of_decide_eq_true h) (by have := isl_mono hv hv' ge gn gw gs; omega)), (fun _ => ws_next ?_)⟩⟩⟩⟩
    have cw : CMulW p.1 q.2.1 := cmw (sp.x.mono (by decide)) (sq.y.mono (by decide))
    have smu : SzP' (mu p q) := by
      refine ⟨(sp.x.add sq.x).mono (by decide), (sp.y.add sq.y).mono (by decide), ?_⟩
      exact Bd.mono ((sp.a.add sq.a).add ((sp.x.mul sq.y).mono (by decide))) (by decide)
    refine ws_seq <| ws_set <| we_call <| wa_cons <| we_var rfl <| wa_cons <| we_var rfl <| wa_nil ⟨p, q, rfl, cw, ?_⟩
    refine ws_if <| wt_test <| we_op <| we_meth <| we_var rfl ⟨_, _, rfl, by decide +kernel, wa_cons <| we_call <| wa_cons <| we_var rfl <| wa_nil ⟨mu p q, rfl, wa_nil ⟨pe, pn, pw, ps, mu p q, rfl, z, smu, fun v1 hv1 => we_op <| we_var rfl <| we_meth <| we_var rfl ⟨_, _, rfl, by decide +kernel, wa_cons <| we_call <| wa_cons <| we_var rfl <| wa_nil ⟨q, rfl, wa_nil ⟨pe, pn, pw, ps, q, rfl, z, sq.up, fun v2 hv2 => ro_i0 <| ro_b0 ⟨_, rfl, (fun h => absurd (of_decide_eq_true h) (by have := isl_sub hv hv2 hv1; omega)), (fun _ => ws_next ?_)⟩⟩⟩⟩⟩⟩⟩
    exact ⟨⟨_, _, _, _, _, _, _, _, _, _, _, _, rfl⟩, by push_cast; omega⟩
  rintro _ B1 ⟨o2, o3, o4, o5, o6, o7, o8, o9, o10, o11, o12, o13, rfl⟩
  exact ws_ret <| we_bl (hk _)
end
end AW

namespace AW
open PySem PySem.Spec PyProof.Rows L2
/-- the law, called as the statement calls it -/
theorem law_at {l : PySem.W.OpenLaw} {w : World} {K : PySem.W.Frag} [CDict K w "DIRECTIONS" L_DIRECTIONS] {mg : Str → Option Value} {fa : Addr} {h : Heap} (T : Tx K mg) (ea : T.a_law = fa) :
    LamX.LawAtS l w K (L2.CX l.prog w) 12 63 "_law_script" mg fa h := by
  subst ea
  letI : Tbs := ⟨[]⟩
  refine ⟨T.d_law, [], spLaw K, (fun p hp => by cases hp), (fun p hp => by cases hp), (fun p hp => by cases hp), fun s u => ?_, fun H a ns hl _ hH hS => ?_, fun base KB hm hb => ?_⟩
  · obtain ⟨oc, od, kV, doc, pm, an, cdv, ct, osl, e, lk, hcd⟩ := T.F_law.ex
    rw [e]
    exact BindsTo.of_eq rfl
  · exact ⟨a, ns, rfl, hS, hl, fun q hq => (by cases hq), fun H' => rfl⟩
  · exact ((okD_law T).mono (by decide)).imp (spLaw_imp fun ns k hl hk => ⟨ns, rfl, hl, rfl, hk⟩)
end AW
open PySem PySem.W PyProof.Rows in
set_option maxRecDepth 100000 in
set_option maxHeartbeats 0 in
theorem PySem.Challenge.cw_areawalks_k57_whole_prices_compared_holds : PySem.Challenge.rw_areawalks_k57_whole_prices_compared.Holds := by
  w_on; o_law; k_head; (case hw => w_witness2)
  k_fill
  refine LamX.walk_ofTs (l := PySem.Challenge.rw_areawalks_k57_whole_prices_compared) (n := 63) (k := 12) (x := "_law_script") (CX := fun w => L2.CX (PySem.Challenge.rw_areawalks_k57_whole_prices_compared).prog w) rfl (by decide) rfl ⟨rfl, by decide, by decide⟩ (fun w h Y => PySem.W.kIn_of Y) ?F ?G
  case G =>
    intro w H s e s' h
    obtain ⟨_, _, _, _, _, _, _, _, _, _, _, _, z⟩ := h
    exact z.elim
  case F =>
    intro w mg fa h Y KX G hmg
    refine' AW.tx_mk  KX G hmg ?g_fewest_steps ?l_fewest_steps ?c_fewest_steps ?k_fewest_steps ?g_quotient_up ?l_quotient_up ?c_quotient_up ?k_quotient_up ?g_half_outline ?l_half_outline ?c_half_outline ?k_half_outline ?g_is_integer ?l_is_integer ?c_is_integer ?k_is_integer ?g_is_whole ?l_is_whole ?c_is_whole ?k_is_whole ?g_check_integer ?l_check_integer ?c_check_integer ?k_check_integer ?g_check_from ?l_check_from ?c_check_from ?k_check_from ?g_check_place ?l_check_place ?c_check_place ?k_check_place ?g_bezout ?l_bezout ?c_bezout ?k_bezout ?g_cheapest_frame ?l_cheapest_frame ?c_cheapest_frame ?k_cheapest_frame ?g_is_run ?l_is_run ?c_is_run ?k_is_run ?g_joined_runs ?l_joined_runs ?c_joined_runs ?k_joined_runs ?g_told_runs ?l_told_runs ?c_told_runs ?k_told_runs ?g_steps ?l_steps ?c_steps ?k_steps ?g_l_begin ?l_l_begin ?c_l_begin ?k_l_begin ?g_l_draw ?l_l_draw ?c_l_draw ?k_l_draw ?g_l_pick ?l_l_pick ?c_l_pick ?k_l_pick ?g_l_number ?l_l_number ?c_l_number ?k_l_number ?g_l_great ?l_l_great ?c_l_great ?k_l_great ?g_l_signed ?l_l_signed ?c_l_signed ?k_l_signed ?g_l_step ?l_l_step ?c_l_step ?k_l_step ?g_l_led ?l_l_led ?c_l_led ?k_l_led ?g_l_behind ?l_l_behind ?c_l_behind ?k_l_behind ?g_l_back ?l_l_back ?c_l_back ?k_l_back ?g_l_place ?l_l_place ?c_l_place ?k_l_place ?g_l_counts ?l_l_counts ?c_l_counts ?k_l_counts ?g_l_made ?l_l_made ?c_l_made ?k_l_made ?g_l_spot ?l_l_spot ?c_l_spot ?k_l_spot ?g_l_mirrors_right ?l_l_mirrors_right ?c_l_mirrors_right ?k_l_mirrors_right ?g_l_walks_right ?l_l_walks_right ?c_l_walks_right ?k_l_walks_right ?g_law ?l_law ?c_law ?k_law ?g_C_BadNumber ?m_BadNumber_init ?i_BadNumber_init ?l_BadNumber_init ?c_BadNumber_init ?k_BadNumber_init ?sa_BadNumber ?ex_BadNumber ?ty_BadNumber ?kc_BadNumber ?x_BadNumber ?na_BadNumber_value ?g_C_BadPlace ?m_BadPlace_init ?i_BadPlace_init ?l_BadPlace_init ?c_BadPlace_init ?k_BadPlace_init ?sa_BadPlace ?ex_BadPlace ?ty_BadPlace ?kc_BadPlace ?x_BadPlace ?na_BadPlace_value ?g_C_BadWord ?m_BadWord_init ?i_BadWord_init ?l_BadWord_init ?c_BadWord_init ?k_BadWord_init ?sa_BadWord ?ex_BadWord ?ty_BadWord ?kc_BadWord ?x_BadWord ?na_BadWord_value ?g_C_Place ?pg_Place ?hd_Place ?po_Place ?sa_Place ?ca_Place ?cm_Place ?na_Place_x ?na_Place_y ?na_Place_area ?m_Place_init ?i_Place_init ?l_Place_init ?c_Place_init ?k_Place_init ?mk_Place ?kc_Place ?g_C_Bargain ?pg_Bargain ?hd_Bargain ?po_Bargain ?sa_Bargain ?na_Bargain_across ?na_Bargain_up ?na_Bargain_product ?na_Bargain_wide ?na_Bargain_high ?na_Bargain_narrowest ?na_Bargain_widest ?m_Bargain_init ?i_Bargain_init ?l_Bargain_init ?c_Bargain_init ?k_Bargain_init ?mk_Bargain ?kc_Bargain ?m_Bargain_best ?i_Bargain_best ?l_Bargain_best ?c_Bargain_best ?k_Bargain_best ?m_Bargain_frame_by_widths ?i_Bargain_frame_by_widths ?l_Bargain_frame_by_widths ?c_Bargain_frame_by_widths ?k_Bargain_frame_by_widths ?m_Bargain_may_be_cheaper ?i_Bargain_may_be_cheaper ?l_Bargain_may_be_cheaper ?c_Bargain_may_be_cheaper ?k_Bargain_may_be_cheaper ?m_Bargain_frame_by_costs ?i_Bargain_frame_by_costs ?l_Bargain_frame_by_costs ?c_Bargain_frame_by_costs ?k_Bargain_frame_by_costs ?m_Bargain_least_cost ?i_Bargain_least_cost ?l_Bargain_least_cost ?c_Bargain_least_cost ?k_Bargain_least_cost ?m_Bargain_frame_of_cost ?i_Bargain_frame_of_cost ?l_Bargain_frame_of_cost ?c_Bargain_frame_of_cost ?k_Bargain_frame_of_cost ?g_C_Ready ?pg_Ready ?hd_Ready ?po_Ready ?sa_Ready ?ca_Ready ?cm_Ready ?na_Ready_runs ?g_C_Walk ?pg_Walk ?hd_Walk ?po_Walk ?sa_Walk ?na_Walk_runs ?m_Walk_init ?i_Walk_init ?l_Walk_init ?c_Walk_init ?k_Walk_init ?mk_Walk ?kc_Walk ?g_C_Prices ?pg_Prices ?hd_Prices ?po_Prices ?sa_Prices ?na_Prices_east ?na_Prices_north ?na_Prices_west ?na_Prices_south ?m_Prices_init ?i_Prices_init ?l_Prices_init ?c_Prices_init ?k_Prices_init ?mk_Prices ?kc_Prices ?m_Prices_price_of ?i_Prices_price_of ?l_Prices_price_of ?c_Prices_price_of ?k_Prices_price_of ?m_Prices_least_price ?i_Prices_least_price ?l_Prices_least_price ?c_Prices_least_price ?k_Prices_least_price ?m_Prices_frame ?i_Prices_frame ?l_Prices_frame ?c_Prices_frame ?k_Prices_frame ?cn ?ct ?io_Place_int ?io_Place_bool ?is_NoneType_Place ?is_bool_Place ?is_int_Place ?is_str_Place ?is_list_Place ?is_tuple_Place ?is_dict_Place ?is_list_Ready ?n_abs ?n_all ?n_bool ?n_int ?n_isinstance ?n_len ?n_list ?n_max ?n_min ?n_range ?n_str ?n_sum ?n_tuple ?n_zip ?gc_MOST_WIDTHS ?gc_MOST_RUNS ?gc_HIGHEST_PRICE ?gc_LETTERS ?mi_gcd ?mi_isqrt ?kk
    (case g_fewest_steps => k_is)
    (case l_fewest_steps => k_is)
    (case c_fewest_steps => k_is)
    (case k_fewest_steps => k_is)
    (case g_quotient_up => k_is)
    (case l_quotient_up => k_is)
    (case c_quotient_up => k_is)
    (case k_quotient_up => k_is)
    (case g_half_outline => k_is)
    (case l_half_outline => k_is)
    (case c_half_outline => k_is)
    (case k_half_outline => k_is)
    (case g_is_integer => k_is)
    (case l_is_integer => k_is)
    (case c_is_integer => k_is)
    (case k_is_integer => k_is)
    (case g_is_whole => k_is)
    (case l_is_whole => k_is)
    (case c_is_whole => k_is)
    (case k_is_whole => k_is)
    (case g_check_integer => k_is)
    (case l_check_integer => k_is)
    (case c_check_integer => k_is)
    (case k_check_integer => k_is)
    (case g_check_from => k_is)
    (case l_check_from => k_is)
    (case c_check_from => k_is)
    (case k_check_from => k_is)
    (case g_check_place => k_is)
    (case l_check_place => k_is)
    (case c_check_place => k_is)
    (case k_check_place => k_is)
    (case g_bezout => k_is)
    (case l_bezout => k_is)
    (case c_bezout => k_is)
    (case k_bezout => k_is)
    (case g_cheapest_frame => k_is)
    (case l_cheapest_frame => k_is)
    (case c_cheapest_frame => k_is)
    (case k_cheapest_frame => k_is)
    (case g_is_run => k_is)
    (case l_is_run => k_is)
    (case c_is_run => k_is)
    (case k_is_run => k_is)
    (case g_joined_runs => k_is)
    (case l_joined_runs => k_is)
    (case c_joined_runs => k_is)
    (case k_joined_runs => k_is)
    (case g_told_runs => k_is)
    (case l_told_runs => k_is)
    (case c_told_runs => k_is)
    (case k_told_runs => k_is)
    (case g_steps => k_is)
    (case l_steps => k_is)
    (case c_steps => k_is)
    (case k_steps => k_is)
    (case g_l_begin => k_is)
    (case l_l_begin => k_is)
    (case c_l_begin => k_is)
    (case k_l_begin => k_is)
    (case g_l_draw => k_is)
    (case l_l_draw => k_is)
    (case c_l_draw => k_is)
    (case k_l_draw => k_is)
    (case g_l_pick => k_is)
    (case l_l_pick => k_is)
    (case c_l_pick => k_is)
    (case k_l_pick => k_is)
    (case g_l_number => k_is)
    (case l_l_number => k_is)
    (case c_l_number => k_is)
    (case k_l_number => k_is)
    (case g_l_great => k_is)
    (case l_l_great => k_is)
    (case c_l_great => k_is)
    (case k_l_great => k_is)
    (case g_l_signed => k_is)
    (case l_l_signed => k_is)
    (case c_l_signed => k_is)
    (case k_l_signed => k_is)
    (case g_l_step => k_is)
    (case l_l_step => k_is)
    (case c_l_step => k_is)
    (case k_l_step => k_is)
    (case g_l_led => k_is)
    (case l_l_led => k_is)
    (case c_l_led => k_is)
    (case k_l_led => k_is)
    (case g_l_behind => k_is)
    (case l_l_behind => k_is)
    (case c_l_behind => k_is)
    (case k_l_behind => k_is)
    (case g_l_back => k_is)
    (case l_l_back => k_is)
    (case c_l_back => k_is)
    (case k_l_back => k_is)
    (case g_l_place => k_is)
    (case l_l_place => k_is)
    (case c_l_place => k_is)
    (case k_l_place => k_is)
    (case g_l_counts => k_is)
    (case l_l_counts => k_is)
    (case c_l_counts => k_is)
    (case k_l_counts => k_is)
    (case g_l_made => k_is)
    (case l_l_made => k_is)
    (case c_l_made => k_is)
    (case k_l_made => k_is)
    (case g_l_spot => k_is)
    (case l_l_spot => k_is)
    (case c_l_spot => k_is)
    (case k_l_spot => k_is)
    (case g_l_mirrors_right => k_is)
    (case l_l_mirrors_right => k_is)
    (case c_l_mirrors_right => k_is)
    (case k_l_mirrors_right => k_is)
    (case g_l_walks_right => k_is)
    (case l_l_walks_right => k_is)
    (case c_l_walks_right => k_is)
    (case k_l_walks_right => k_is)
    (case g_law => k_is)
    (case l_law => k_is)
    (case c_law => k_is)
    (case k_law => k_is)
    (case g_C_BadNumber => k_is)
    (case m_BadNumber_init => k_is)
    (case i_BadNumber_init => k_is)
    (case l_BadNumber_init => k_is)
    (case c_BadNumber_init => k_is)
    (case k_BadNumber_init => k_is)
    (case sa_BadNumber => k_is)
    (case ex_BadNumber => k_is)
    (case ty_BadNumber => k_is)
    (case kc_BadNumber => k_is)
    (case x_BadNumber => k_is)
    (case na_BadNumber_value => k_is)
    (case g_C_BadPlace => k_is)
    (case m_BadPlace_init => k_is)
    (case i_BadPlace_init => k_is)
    (case l_BadPlace_init => k_is)
    (case c_BadPlace_init => k_is)
    (case k_BadPlace_init => k_is)
    (case sa_BadPlace => k_is)
    (case ex_BadPlace => k_is)
    (case ty_BadPlace => k_is)
    (case kc_BadPlace => k_is)
    (case x_BadPlace => k_is)
    (case na_BadPlace_value => k_is)
    (case g_C_BadWord => k_is)
    (case m_BadWord_init => k_is)
    (case i_BadWord_init => k_is)
    (case l_BadWord_init => k_is)
    (case c_BadWord_init => k_is)
    (case k_BadWord_init => k_is)
    (case sa_BadWord => k_is)
    (case ex_BadWord => k_is)
    (case ty_BadWord => k_is)
    (case kc_BadWord => k_is)
    (case x_BadWord => k_is)
    (case na_BadWord_value => k_is)
    (case g_C_Place => k_is)
    (case pg_Place => k_is)
    (case hd_Place => k_is)
    (case po_Place => k_is)
    (case sa_Place => k_is)
    (case ca_Place => k_is)
    (case cm_Place => k_is)
    (case na_Place_x => k_is)
    (case na_Place_y => k_is)
    (case na_Place_area => k_is)
    (case m_Place_init => k_is)
    (case i_Place_init => k_is)
    (case l_Place_init => k_is)
    (case c_Place_init => k_is)
    (case k_Place_init => k_is)
    (case mk_Place => k_is)
    (case kc_Place => k_is)
    (case g_C_Bargain => k_is)
    (case pg_Bargain => k_is)
    (case hd_Bargain => k_is)
    (case po_Bargain => k_is)
    (case sa_Bargain => k_is)
    (case na_Bargain_across => k_is)
    (case na_Bargain_up => k_is)
    (case na_Bargain_product => k_is)
    (case na_Bargain_wide => k_is)
    (case na_Bargain_high => k_is)
    (case na_Bargain_narrowest => k_is)
    (case na_Bargain_widest => k_is)
    (case m_Bargain_init => k_is)
    (case i_Bargain_init => k_is)
    (case l_Bargain_init => k_is)
    (case c_Bargain_init => k_is)
    (case k_Bargain_init => k_is)
    (case mk_Bargain => k_is)
    (case kc_Bargain => k_is)
    (case m_Bargain_best => k_is)
    (case i_Bargain_best => k_is)
    (case l_Bargain_best => k_is)
    (case c_Bargain_best => k_is)
    (case k_Bargain_best => k_is)
    (case m_Bargain_frame_by_widths => k_is)
    (case i_Bargain_frame_by_widths => k_is)
    (case l_Bargain_frame_by_widths => k_is)
    (case c_Bargain_frame_by_widths => k_is)
    (case k_Bargain_frame_by_widths => k_is)
    (case m_Bargain_may_be_cheaper => k_is)
    (case i_Bargain_may_be_cheaper => k_is)
    (case l_Bargain_may_be_cheaper => k_is)
    (case c_Bargain_may_be_cheaper => k_is)
    (case k_Bargain_may_be_cheaper => k_is)
    (case m_Bargain_frame_by_costs => k_is)
    (case i_Bargain_frame_by_costs => k_is)
    (case l_Bargain_frame_by_costs => k_is)
    (case c_Bargain_frame_by_costs => k_is)
    (case k_Bargain_frame_by_costs => k_is)
    (case m_Bargain_least_cost => k_is)
    (case i_Bargain_least_cost => k_is)
    (case l_Bargain_least_cost => k_is)
    (case c_Bargain_least_cost => k_is)
    (case k_Bargain_least_cost => k_is)
    (case m_Bargain_frame_of_cost => k_is)
    (case i_Bargain_frame_of_cost => k_is)
    (case l_Bargain_frame_of_cost => k_is)
    (case c_Bargain_frame_of_cost => k_is)
    (case k_Bargain_frame_of_cost => k_is)
    (case g_C_Ready => k_is)
    (case pg_Ready => k_is)
    (case hd_Ready => k_is)
    (case po_Ready => k_is)
    (case sa_Ready => k_is)
    (case ca_Ready => k_is)
    (case cm_Ready => k_is)
    (case na_Ready_runs => k_is)
    (case g_C_Walk => k_is)
    (case pg_Walk => k_is)
    (case hd_Walk => k_is)
    (case po_Walk => k_is)
    (case sa_Walk => k_is)
    (case na_Walk_runs => k_is)
    (case m_Walk_init => k_is)
    (case i_Walk_init => k_is)
    (case l_Walk_init => k_is)
    (case c_Walk_init => k_is)
    (case k_Walk_init => k_is)
    (case mk_Walk => k_is)
    (case kc_Walk => k_is)
    (case g_C_Prices => k_is)
    (case pg_Prices => k_is)
    (case hd_Prices => k_is)
    (case po_Prices => k_is)
    (case sa_Prices => k_is)
    (case na_Prices_east => k_is)
    (case na_Prices_north => k_is)
    (case na_Prices_west => k_is)
    (case na_Prices_south => k_is)
    (case m_Prices_init => k_is)
    (case i_Prices_init => k_is)
    (case l_Prices_init => k_is)
    (case c_Prices_init => k_is)
    (case k_Prices_init => k_is)
    (case mk_Prices => k_is)
    (case kc_Prices => k_is)
    (case m_Prices_price_of => k_is)
    (case i_Prices_price_of => k_is)
    (case l_Prices_price_of => k_is)
    (case c_Prices_price_of => k_is)
    (case k_Prices_price_of => k_is)
    (case m_Prices_least_price => k_is)
    (case i_Prices_least_price => k_is)
    (case l_Prices_least_price => k_is)
    (case c_Prices_least_price => k_is)
    (case k_Prices_least_price => k_is)
    (case m_Prices_frame => k_is)
    (case i_Prices_frame => k_is)
    (case l_Prices_frame => k_is)
    (case c_Prices_frame => k_is)
    (case k_Prices_frame => k_is)
    (case cn => k_is)
    (case ct => k_is)
    (case io_Place_int => kit_is)
    (case io_Place_bool => kit_is)
    (case is_NoneType_Place => kit_is)
    (case is_bool_Place => kit_is)
    (case is_int_Place => kit_is)
    (case is_str_Place => kit_is)
    (case is_list_Place => kit_is)
    (case is_tuple_Place => kit_is)
    (case is_dict_Place => kit_is)
    (case is_list_Ready => kit_is)
    (case n_abs => k_is)
    (case n_all => k_is)
    (case n_bool => k_is)
    (case n_int => k_is)
    (case n_isinstance => k_is)
    (case n_len => k_is)
    (case n_list => k_is)
    (case n_max => k_is)
    (case n_min => k_is)
    (case n_range => k_is)
    (case n_str => k_is)
    (case n_sum => k_is)
    (case n_tuple => k_is)
    (case n_zip => k_is)
    (case gc_MOST_WIDTHS => k_is)
    (case gc_MOST_RUNS => k_is)
    (case gc_HIGHEST_PRICE => k_is)
    (case gc_LETTERS => k_is)
    (case mi_gcd => k_is)
    (case mi_isqrt => k_is)
    (case kk =>
      intro T ea
      refine' AW.cd_use_DIRECTIONS (w := w) KX ?cdx ?cdy ?cdz ?cds ?cdl0 ?cdv0 ?cdl1 ?cdv1 ?cdl2 ?cdv2 ?cdl3 ?cdv3 ?cdf
      (case cdx => k_is)
      (case cdy => k_is)
      (case cdz => rfl)
      (case cds => rfl)
      (case cdl0 => k_is)
      (case cdv0 => rfl)
      (case cdl1 => k_is)
      (case cdv1 => rfl)
      (case cdl2 => k_is)
      (case cdv2 => rfl)
      (case cdl3 => k_is)
      (case cdv3 => rfl)
      case cdf => 
      intro cd_DIRECTIONS
      haveI := cd_DIRECTIONS
      exact AW.law_at T ea)

