import PyProof.Rows.All
import Wide.All
import OpenK.AllK
import Wide.FinOn
import HandS.ForMost
import HandS.OwnEq
import HandS.SlotsOwn
import HandS.Property
import HandS.MakeKw
import HandS.MakeKwOnly
import HandS.IsInst
import HandS.Gcd
import HandS.Wide
import HandS.WideBits
import HandS.FStr
import KE.KFmtOwn
import PyProof.FactsAll.dict
import KE.KEqNest
import KE.GoesEnum
import PyProof.NeKinds
import HandS.Comp
import HandS.Iter
import KE.KOpsOwn
import HandS.ClsMeth
import HandS.StrMore
import HandS.Text
import PyProof.StrLawsAffix
import HandS.TryMany
import HandS.ExcIs
import HandS.ExcField
import HandS.HotCalls
import KE.KTryMore
import HandS.ExcInit
import HandS.ExcValue
import KE.KExcInit
import HandS.Lambda
import HandS.ExcOwn
import PyProof.Rows.Digits
import PyProof.Rows.StrOr
import HandS.EndTab
import HandS.HeadWalk
import PyProof.Rows.SortStrRead
import HandS.CallLocal
import HandS.DeepEq
import PySem.Challenge.RW_seriesforms_k07_series_made
import KE.KNestM
import KE.HD3
import HandS.HeadHook1
import HandS.HeadHook2
import PyProof.ReprLen
import PyProof.ReprNest
import HandS.TryOnly
import HandS.AnyAll
import KE.RegKIsAll
set_option Elab.async false
set_option maxRecDepth 100000
set_option maxHeartbeats 8000000
set_option linter.all false
/-! A def's promise where it is known that no guard runs (a container may be shown). -/
namespace SF
open PySem PySem.Spec PyProof.Rows L2

structure FnG (P : Program) (w : World) (K : PySem.W.Frag) (mg : Str → Option Value) (base : Heap) (CX : CXT) (k : Nat) (f : Addr) (fd : FuncData) (ps : List Str) (sp : Sp) : Prop where
  len : ∀ vs H Q E, sp vs H Q E → vs.length = ps.length
  run : ∀ (A : Around) (outer : List Env) (s : Shared) (H : Hp) (args : Args) (us : List Value) (vs : List V) (Q : VK) (E : XK), A.guards = some [] → Room k A → Env0 P w K mg base A outer s H → BindsTo s fd args (ps.zip us) → Vals vs us → sp vs H Q E →
    codeAny (model P w) A (.call (.ref f) args) (CR CX outer P w H s Q E) s

section
variable {X : Cx} {CX : CXT} {k : Nat} {f : Addr} {fd : FuncData} {ps : List Str} {sp : Sp} {dvs : List V} {ds : List Value} {E : XK} {x : Str} {p pos : Pos} {e : Expr} {es : List Expr} {t : TA}
theorem run_fnG {pins : List (Addr × Obj)} {σ : L2.St} {H : Hp} {s : Shared} {Q : VK} {us : List Value} {vs : List V} (F : FnG X.prog X.w X.K X.mg X.base CX k f fd ps sp) (hgd : X.A.guards = some []) (hr : Room k X.A) (hb : Binds X.K fd ps ds) (hd : Vals dvs ds) (hx : Passes CX X E)
    (I : Inv X pins σ H s) (r : Vals vs us) (h : sp (vs ++ dvs) H Q E) : wpAny (model X.prog X.w) X.A (call (.ref f) us) (EP X pins σ Q) X.xe s := by
  have r2 : Vals (vs ++ dvs) (us ++ ds) := r.append hd
  have hl : (us ++ ds).length = ps.length := by rw [← r2.length]; exact F.len _ _ _ _ h
  refine wpAny_call (codeAny_mono (F.run X.A X.stack s H ⟨us, []⟩ (us ++ ds) (vs ++ dvs) Q E hgd hr I.env0 (hb s us I.kIn hl) r2 h) fun r s' hq => ?_)
  cases r with
  | error e => exact hx pins σ H s e s' I hq
  | ok fl =>
    cases fl with
    | ret u => exact I.after hq
    | next => exact False.elim hq
    | brk => exact False.elim hq
    | cont => exact False.elim hq
theorem pe_callG (F : FnG X.prog X.w X.K X.mg X.base CX k f fd ps sp) (hgd : X.A.guards = some []) (hr : Room k X.A) (hg : Gl X x) (hm : X.mg x = some (.ref f)) (hk : PySem.W.keepIn X.K (.ref f) = true) (hb : Binds X.K fd ps ds) (hd : Vals dvs ds) (hx : Passes CX X E)
    (ha : PA X (e :: es) t) (hdb : (x == ("__debug__" : Str)) = false := by decide) (he : starEach (e :: es) X.env = (false, eval e X.env) :: starEach es X.env := by rfl) (hpl : (backTo pos (starEach es X.env)).any (·.1) = false := by rfl) :
    PE X (.Call (.Name x p) (e :: es) [] pos) (tCall sp dvs E t) := by
  refine ⟨fun pins s σ H Q I h => ?_⟩
  refine wpAny_Call_Name_kw (ld_glob I hg hm ?_ hdb)
  refine PySem.W.callWith_K (h₀ := X.base) I.ok.mod.kin hk (thn (ha.run pos pins s σ H _ I h) fun us s1 ⟨vs, H1, I1, r, q⟩ => ⟨I1.kIn, ?_⟩) he hpl
  exact run_fnG F hgd hr hb hd hx I1 r q
end

theorem fn_ofG {CX : CXT} {P : Program} {w : World} {K : PySem.W.Frag} {mg : Str → Option Value} {base : Heap} {k : Nat} {f : Addr} {name qual : Str} {params : Arguments} {body : List Stmt} {scope : Scope} {dV kV doc pm cdv ct oc : Value} {an od : Option Addr}
    {osl : Array (Option Value)} {N ps : List Str} {sp : Sp} (lk : K.lookup f = some ⟨oc, od, .func (PySem.W.fnOf name qual params body scope dV kV doc pm an cdv ct), osl⟩) (hcd : PySem.W.codeIn K cdv qual = true) (S : FnScope N ps scope)
    (len : ∀ vs H Q E, sp vs H Q E → vs.length = ps.length)
    (hbody : ∀ (A : Around) (outer : List Env) (s : Shared) (H : Hp) (vs : List V) (Q : VK) (E : XK), A.guards = some [] → Room k (A.deeper (envOfC qual scope s.heap.objs.size f cdv)) → sp vs H Q E →
      ∃ t, PSs (cxOf CX P w K mg base N qual scope f cdv A outer s H E) body t ∧ t { nx := fun _ H' => Q .non H', rt := Q } (start N vs) H) :
    FnG P w K mg base CX (k + 1) f (PySem.W.fnOf name qual params body scope dV kV doc pm an cdv ct) ps sp := by
  refine ⟨len, fun A outer s H args us vs Q E hgd hr e0 hb r hsp => ?_⟩
  have hl := len _ _ _ _ hsp
  have KX : K.In s.heap := e0.mod.kin.keeps fun b o e => (e0.bs b o e).1
  have lim : s.heap.NoLimit := e0.mod.nolimit.keeps fun b o e => (e0.bs b o e).1
  have hkind : ∀ y ∈ ps.zip us, scope.names.lookup y.1 = some .local ∨ (scope.names.lookup y.1 = some .cell ∧ ((cellsFrom (s.heap.objs.size + 1) scope.names []).lookup y.1).isSome = true) := fun ⟨n, v⟩ hy => by
    rcases S.par n (List.of_mem_zip hy).1 with q | q
    · exact .inl q
    · exact .inr ⟨q, PySem.W.cellsFrom_some _ _ _ (.inl q)⟩
  refine codeAny_call_function hr.depth (KX _ _ lk) rfl S.co S.gen rfl (PySem.W.codeRec_of KX hcd) (hb _ _ _ _ ?_)
  refine wpAny_newFunctionEnv_cells S.kind hkind fun env he s1 x => ?_
  subst he
  refine ⟨lim.keeps x.toInCall.keep, codeAny_func ?_⟩
  obtain ⟨t, ht, hq⟩ := hbody A outer s H vs Q E hgd (hr.deeper _) hsp
  have I : Inv (cxOf CX P w K mg base N qual scope f cdv A outer s H E) [] (start N vs) H s1 := inv_start S hr.hd e0 hl r x
  refine wpAny_mono (ht.run [] s1 (start N vs) H _ I hq) (fun fl s' hs => ?_) fun e s' hs => hs
  have fin : ∀ {σ' : L2.St} {H' : Hp} {v : V} {u : Value}, Inv (cxOf CX P w K mg base N qual scope f cdv A outer s H E) [] σ' H' s' → RelV v u → Q v H' → CE outer P w H s Q u s' :=
    fun {σ' H' v u} J rv q => ⟨v, H', J.os, J.bare, J.base, J.hok, rv, q⟩
  cases fl with
  | ret u =>
    obtain ⟨v, σ', H', J, rv, q⟩ := hs
    exact fin J rv q
  | next =>
    obtain ⟨σ', H', J, q⟩ := hs
    exact fin (v := V.non) (u := Value.none) J rfl q
  | brk =>
    obtain ⟨_, _, _, q⟩ := hs
    exact False.elim q
  | cont =>
    obtain ⟨_, _, _, q⟩ := hs
    exact False.elim q

section
variable {P : Program} {w : World} {K : PySem.W.Frag} {mg : Str → Option Value} {base : Heap}
theorem okG {x qual : Str} {st : Stmt} {f : Addr} {fd : FuncData} {N ps : List Str} {k : Nat} {sp : Sp} (F : Fun K x qual st f fd) (S : FnScope N ps (defScope st)) (len : ∀ vs H Q E, sp vs H Q E → vs.length = ps.length)
    (hbody : ∀ (cdv : Value) (A : Around) (outer : List Env) (s : Shared) (H : Hp) (vs : List V) (Q : VK) (E : XK), A.guards = some [] → Room k (A.deeper (envOfC qual (defScope st) s.heap.objs.size f cdv)) → sp vs H Q E →
      ∃ t, PSs (cxOf CX0 P w K mg base N qual (defScope st) f cdv A outer s H E).nox (defBody st) t ∧ t { nx := fun _ H' => Q .non H', rt := Q } (start N vs) H) : FnG P w K mg base CX0 (k + 1) f fd ps sp := by
  obtain ⟨oc, od, kV, doc, pm, an, cdv, ct, osl, rfl, lk, hcd⟩ := F.ex
  refine fn_ofG lk hcd S len fun A outer s H vs Q E hgd hr hsp => ?_
  obtain ⟨t, h, q⟩ := hbody cdv A outer s H vs Q E hgd hr hsp
  exact ⟨t, h.nox, q⟩
end
example (A : Around) (e : Env) (h : A.guards = some []) : (A.deeper e).guards = some [] := h
example (A : Around) (h : A.guards = some []) : (A.in1).guards = some [] := h
example : callerA.guards = some [] := rfl
end SF

namespace SF
open PySem PySem.Spec PyProof.Rows L2
open AutoSeq1 (wpAny_loadPart')

/-! ### // by any divisor but 0 -/
def CDivZ (_ j : Int) : Prop := j ≠ 0 ∧ j.natAbs.log2 < 9000
section
variable {X : Cx}
theorem op_fdivZ : OpR X (binaryOp .FloorDiv) (rI CDivZ fun i j => .int (i.fdiv j)) := opI fun i j _ _ _ _ _ hc q =>
  floordiv_int hc.1 q (.inl (PyProof.noPylong_of_log2 hc.2))
end

section
variable {X : Cx} {CX : CXT} {n : Nat} {C g : Addr} {fd : FuncData} {ps : List Str} {sp : Sp} {E : XK}

/-- an instance's place in the state -/
theorem inst_of {pins : List (Addr × Obj)} {σ : L2.St} {H : Hp} {s : Shared} {a C dx : Addr} {fs : List (Str × V)} (I : Inv X pins σ H s) (e : H a = some (.ins C dx fs)) : ∃ od, PySem.W.InstAt s.heap a (PySem.W.instObj C dx) C (some od) := by
  obtain ⟨mA, O, _⟩ := ins_get I.hok e
  obtain ⟨od, J, _⟩ := O.look
  exact ⟨od, J⟩

/-- x op y, x an instance of the class at C whose own def for op stands at g, y of any kind -/
def rOwnL (K : PySem.W.Frag) (C : Addr) (sp : Sp) (E : XK) : R2 := fun x y H Q => ∃ a dx fs tb, x = .ref a ∧ H a = some (.ins C dx fs) ∧ TyX K H y tb ∧ PySem.W.notFirst K C tb = true ∧ sp [x, y] H Q E
theorem op_ownL {op : CmpOp} (hop : ∀ a b, compareOp op a b = richCompare op a b) (hs : PySem.W.findIn X.K (.ref C) (cmpInfo op).2.1 = some (some (.ref g))) (hf : PySem.W.isFn X.K (.ref g) = true)
    (F : FnOk X.prog X.w X.K X.mg X.base CX n g fd ps sp) (hb : Binds X.K fd ps []) (hr : Room n X.A) (hx : Passes CX X E) : OpR X (compareOp op) (rOwnL X.K C sp E) := by
  intro pins s σ H x y v u Q I rx ry h
  obtain ⟨a, dx, fs, tb, rfl, ha, ty, hn, q⟩ := h
  cases (show v = Value.ref a from rx)
  obtain ⟨od, J⟩ := inst_of I ha
  obtain ⟨P, kt, hP, _⟩ := kit_of I ry ty
  obtain ⟨m, hF⟩ := I.fr
  rw [hop]
  refine PySem.W.cmp_K (op := op) (tb := tb) hr.units0 hF I.ok.mod.kin J (kt.ty _ _ I.kIn hP) hn hs hf ?_
  refine wpAny_mono (run_fn (us := [.ref a, u]) (vs := [.ref a, y]) (dvs := []) (ds := []) F hr hb .nil hx I (.cons rfl (.cons ry .nil)) (by simpa using q)) (fun w s' z => ?_) fun _ _ x => x
  obtain ⟨z', H', I', rz, qz⟩ := z
  exact SlX.cmpback rz ⟨z', H', I', rz, qz⟩

/-- bool of an instance with its own __bool__, as a test -/
def rOwnB (C : Addr) (sp : Sp) (E : XK) : V → Hp → (Bool → Hp → Prop) → Prop := fun x H Q => ∃ a dx fs, x = .ref a ∧ H a = some (.ins C dx fs) ∧ sp [x] H (fun z H' => ∃ b, z = .bl b ∧ Q b H') E
theorem tru_own (hs : PySem.W.findIn X.K (.ref C) "__bool__" = some (some (.ref g))) (hf : PySem.W.isFn X.K (.ref g) = true)
    (F : FnOk X.prog X.w X.K X.mg X.base CX n g fd ps sp) (hb : Binds X.K fd ps []) (hr : Room n X.A) (hx : Passes CX X E) : TruR X (rOwnB C sp E) := by
  intro pins s σ H x v Q I rx h
  obtain ⟨a, dx, fs, rfl, ha, q⟩ := h
  cases (show v = Value.ref a from rx)
  obtain ⟨od, J⟩ := inst_of I ha
  obtain ⟨m, hF⟩ := I.fr
  refine PySem.W.truthy_K hF I.ok.mod.kin J hs hf ?_
  refine wpAny_mono (run_fn (us := [.ref a]) (vs := [.ref a]) (dvs := []) (ds := []) F hr hb .nil hx I (.cons rfl .nil) (by simpa using q)) (fun w s' z => ?_) fun _ _ x => x
  obtain ⟨z', H', I', rz, qz⟩ := z
  rcases qz with ⟨ez, qz⟩ | ⟨ez, qz⟩
  · subst ez
    cases (show w = Value.bool _ from rz)
    exact ⟨H', I', qz⟩
  · subst ez
    cases (show w = Value.bool _ from rz)
    exact ⟨H', I', qz⟩
end

/-! ### != by an own __eq__, and the reflected comparisons -/
section
variable {prog : Program} {w : World} {A : Around} {E : Value → Shared → Prop} {s : Shared} {K : PySem.W.Frag} {x C L f : Addr} {h₀ : Heap} {m : Str → Option Value} {ox : Obj} {od : Option Obj} {b tb : Value}
/-- a special that a class takes from a built-in one, called if bound -/
theorem ifBound_B {M : Model} {name : Str} {id : String} {args : List Value} {Q : Option Value → Shared → Prop} (X : K.In s.heap) (I : PySem.W.InstAt s.heap x ox C od) (hs : PySem.W.findIn K (.ref C) name = some (some (.builtin id)))
    (hb : ∀ self, bindSpecial (.builtin id) self = pure (.builtin id, [self])) (h : wpAny M A (call (.builtin id) (.ref x :: args)) (fun v => Q (some v)) E s) : wpAny M A (callSpecialIfBound? (.ref x) name args) Q E s := by
  simp only [callSpecialIfBound?, bindSpecialIfBound?]
  refine wpAny_holding (wpAny_bind (wpAny_bind (wpAny_bind (I.type.here ((PySem.W.looks_findIn X hs).here ?_)))))
  refine wpAny_bind (wpAny_askSetting (wpAny_ite ?_))
  have fin : wpAny M A (call (.builtin id) ([.ref x] ++ args) >>= fun v => pure (some v)) Q E s := wpAny_bind (wpAny_mono h (fun v s' h' => wpAny_pure h') fun _ _ h' => h')
  split
  · exact wpAny_bind ((PySem.W.Looks.of_pure (hb _)).here (wpAny_pure (by exact fin)))
  · exact wpAny_tryCatch (wpAny_bind ((PySem.W.Looks.of_pure (hb _)).here (wpAny_pure (by exact fin))))

/-- what an own == must give for != : a truth value -/
def NeBack (Q : Value → Shared → Prop) (v : Value) (s' : Shared) : Prop := ∃ k, v = .bool k ∧ Q (.bool (!k)) s'
theorem objNe_own {Q : Value → Shared → Prop} (hu : A.in1.units < cLine) (X : K.In s.heap) (I : PySem.W.InstAt s.heap x ox C od) (hm : PySem.W.mroIn K C (.type "object") = some true)
    (hs : PySem.W.findIn K (.ref C) "__eq__" = some (some (.ref f))) (hf : PySem.W.isFn K (.ref f) = true) (h : wpAny (model prog w) A.in1 (call (.ref f) [.ref x, b]) (NeBack Q) E s) :
    wpAny (model prog w) A (call (.builtin "object.__ne__") [.ref x, b]) Q E s := by
  refine wpAny_call (codeAny_call_builtin PySem.F.cmp_object.ne.plain PySem.F.cmpEntry_ne (PySem.W.check_slot (i := "object.__ne__") (owner := "object") (n := "__ne__") (by decide +kernel) (by decide +kernel) (I.type.andThen (PySem.W.looks_mroIn X hm)) (PySem.F.cmpArgs_ne _ _) ?_))
  unfold Builtin.«object.__ne__»
  refine wpAny_bind (m := slotArgs "__ne__" 1 _) (wpAny_pure ?_)
  refine wpAny_bind (m := cRoomFor _ _) (wpAny_cRoomFor hu ?_)
  refine wpAny_bind (m := callSpecialIfBound? (.ref x) (Str.ofString "__eq__") _) (PySem.W.ifBound_K X I hs hf (wpAny_mono h (fun r s' hq => ?_) fun _ _ y => y))
  obtain ⟨k, rfl, hq⟩ := hq
  exact wpAny_bind (wpAny_truthy_bool (wpAny_pure hq))
theorem ne_K {Q : Value → Shared → Prop} (hu : A.in1.units < cLine) (X : K.In s.heap) (I : PySem.W.InstAt s.heap x ox C od) (hb : PySem.W.Looks (model prog w) s.heap (typeOf b) tb) (hn : PySem.W.notFirst K C tb = true)
    (hne : PySem.W.findIn K (.ref C) "__ne__" = some (some (.builtin "object.__ne__"))) (hm : PySem.W.mroIn K C (.type "object") = some true)
    (hs : PySem.W.findIn K (.ref C) "__eq__" = some (some (.ref f))) (hf : PySem.W.isFn K (.ref f) = true)
    (h : wpAny (model prog w) A.in1 (call (.ref f) [.ref x, b]) (NeBack Q) E s) : wpAny (model prog w) A (richCompare .NotEq (.ref x) b) Q E s := by
  have one : wpAny (model prog w) A (tryCompare (.ref x) (cmpInfo .NotEq).2.1 b) (fun r s' => ∃ v, r = some v ∧ Q v s') E s := by
    unfold tryCompare
    refine wpAny_bind (ifBound_B X I hne PySem.F.cmp_object.ne.bind (objNe_own hu X I hm hs hf (wpAny_mono h (fun v s' hv => ?_) fun _ _ e => e)))
    obtain ⟨k, rfl, hq⟩ := hv
    exact ⟨k, rfl, wpAny_pure ⟨_, rfl, hq⟩⟩
  unfold richCompare
  simp only [oneThing_ref]
  refine wpAny_holding (wpAny_bind (wpAny_cRoomFor (Nat.lt_of_succ_lt hu) ?_))
  refine wpAny_bind (I.type.here (wpAny_bind (hb.here ?_)))
  split
  · rename_i q
    have e : PySem.W.subIn K tb (.ref C) = some false := by
      rcases Bool.or_eq_true_iff.mp hn with e | e
      · rw [beq_iff_eq.mp e] at q; simp at q
      · exact beq_iff_eq.mp e
    refine wpAny_bind ((PySem.W.looks_subIn X e).here ?_)
    simp only [Bool.false_eq_true, if_false]
    refine wpAny_bind (wpAny_mono one (fun r s' z => ?_) fun _ _ e => e)
    obtain ⟨v, rfl, hq⟩ := z
    exact wpAny_pure hq
  · refine wpAny_bind (wpAny_pure ?_)
    simp only [Bool.false_eq_true, if_false]
    refine wpAny_bind (wpAny_mono one (fun r s' z => ?_) fun _ _ e => e)
    obtain ⟨v, rfl, hq⟩ := z
    exact wpAny_pure hq
end
/-! ### the other side -/
section
variable {prog : Program} {w : World} {A : Around} {E : Value → Shared → Prop} {s : Shared} {K : PySem.W.Frag} {x C L f : Addr} {h₀ : Heap} {m : Str → Option Value} {ox : Obj} {od : Option Obj} {a tb : Value}
/-- a op x, where a (of the built-in type T) declines, and the instance x answers -/
theorem cmp_KR {op : CmpOp} {T : String} {Q : Value → Shared → Prop} (hu : A.units < cLine) (h1 : oneThing? op a (.ref x) = none) (ha : PySem.W.Looks (model prog w) s.heap (typeOf a) (.type T)) (X : K.In s.heap) (I : PySem.W.InstAt s.heap x ox C od)
    (hsub : PySem.W.subIn K (.ref C) (.type T) = some false)
    (hdec : ∀ (E : Value → Shared → Prop) (R : Option Value → Shared → Prop), R none s → wpAny (model prog w) A (tryCompare a (cmpInfo op).2.1 (.ref x)) R E s)
    (hr : wpAny (model prog w) A (tryCompare (.ref x) (cmpInfo op).2.2 a) (fun r s' => ∃ v, r = some v ∧ Q v s') E s) : wpAny (model prog w) A (richCompare op a (.ref x)) Q E s := by
  unfold richCompare
  simp only [h1]
  refine wpAny_holding (wpAny_bind (wpAny_cRoomFor hu ?_))
  refine wpAny_bind (ha.here (wpAny_bind (I.type.here ?_)))
  have ne : (Value.type T != Value.ref C) = true := by simp [bne]
  simp only [ne, if_true]
  refine wpAny_bind ((PySem.W.looks_subIn X hsub).here ?_)
  simp only [Bool.false_eq_true, if_false, Bool.not_false, if_true]
  refine wpAny_bind (hdec _ _ ?_)
  refine wpAny_bind (wpAny_mono hr (fun r s' z => ?_) fun _ _ e => e)
  obtain ⟨v, rfl, hq⟩ := z
  exact wpAny_pure hq
end
end SF

namespace SF
open PySem PySem.Spec PyProof.Rows L2
open AutoSeq1 (wpAny_loadPart')
open PySem.SeqAt

theorem int_eq_decl (b : Int) (u : Tok) (l C dx : Addr) :
    Meets (Builtin.«int.__eq__» ⟨[.int b u, .ref l], []⟩) (fun _ R s => s.heap.get? l = some (PySem.W.instObj C dx) ∧ R (.ok (.ret .notImplemented)) s) :=
  .of_wp fun prog w A R s h => by obtain ⟨hp, g, d, tk, os⟩ := s; obtain ⟨hl, h⟩ := h; wp_walk using wpAny_loadPart' hl, wpAny_load hl; exact ⟨_, rfl, h⟩
theorem int_ne_decl (b : Int) (u : Tok) (l C dx : Addr) :
    Meets (Builtin.«int.__ne__» ⟨[.int b u, .ref l], []⟩) (fun _ R s => s.heap.get? l = some (PySem.W.instObj C dx) ∧ R (.ok (.ret .notImplemented)) s) :=
  .of_wp fun prog w A R s h => by obtain ⟨hp, g, d, tk, os⟩ := s; obtain ⟨hl, h⟩ := h; wp_walk using wpAny_loadPart' hl, wpAny_load hl; exact ⟨_, rfl, h⟩
theorem bool_eq_decl (b : Bool) (l C dx : Addr) :
    Meets (Builtin.«int.__eq__» ⟨[.bool b, .ref l], []⟩) (fun _ R s => s.heap.get? l = some (PySem.W.instObj C dx) ∧ R (.ok (.ret .notImplemented)) s) :=
  .of_wp fun prog w A R s h => by obtain ⟨hp, g, d, tk, os⟩ := s; obtain ⟨hl, h⟩ := h; wp_walk using wpAny_loadPart' hl, wpAny_load hl; exact ⟨_, rfl, h⟩
theorem str_eq_decl (b : Str) (u : Tok) (l C dx : Addr) :
    Meets (Builtin.«str.__eq__» ⟨[.str b u, .ref l], []⟩) (fun _ R s => s.heap.get? l = some (PySem.W.instObj C dx) ∧ R (.ok (.ret .notImplemented)) s) :=
  .of_wp fun prog w A R s h => by obtain ⟨hp, g, d, tk, os⟩ := s; obtain ⟨hl, h⟩ := h; wp_walk using wpAny_loadPart' hl, wpAny_load hl; exact ⟨_, rfl, h⟩

/-- a list, a tuple, a dict: its __eq__ asks whether the other one is of its kind -/
theorem ref_isInst {M : Model} {A : Around} {E : Value → Shared → Prop} {s : Shared} {K : PySem.W.Frag} {x C : Addr} {ox : Obj} {od : Option Obj} {T : String} {Q : Bool → Shared → Prop}
    (X : K.In s.heap) (I : PySem.W.InstAt s.heap x ox C od) (hsub : PySem.W.subIn K (.ref C) (.type T) = some false) (q : Q false s) : wpAny M A (isInstance (.ref x) (.type T)) Q E s := by
  unfold isInstance
  exact wpAny_bind (I.type.here ((PySem.W.looks_subIn X hsub).here q))
section
variable {prog : Program} {w : World} {A : Around} {R : Result → Shared → Prop} {s : Shared} {K : PySem.W.Frag} {x C l : Addr} {ox : Obj} {od : Option Obj}
theorem list_eq_declK (X : K.In s.heap) (I : PySem.W.InstAt s.heap x ox C od) (hsub : PySem.W.subIn K (.ref C) (.type "list") = some false) (q : R (.ok (.ret .notImplemented)) s) :
    wpAny (model prog w) A.in1 (Builtin.«list.__eq__» ⟨[.ref l, .ref x], []⟩) (GQ.FinOf prog w A R) (fun e s' => R (.error e) s') s := by
  unfold Builtin.«list.__eq__»
  show wpAny _ _ (do
    let r ← isInstance (.ref x) (.type "list")
    _) _ _ s
  refine wpAny_bind (ref_isInst X I hsub ?_)
  exact wpAny_pure q
theorem tup_eq_declK (X : K.In s.heap) (I : PySem.W.InstAt s.heap x ox C od) (hsub : PySem.W.subIn K (.ref C) (.type "tuple") = some false) (q : R (.ok (.ret .notImplemented)) s) :
    wpAny (model prog w) A.in1 (Builtin.«tuple.__eq__» ⟨[.ref l, .ref x], []⟩) (GQ.FinOf prog w A R) (fun e s' => R (.error e) s') s := by
  unfold Builtin.«tuple.__eq__»
  show wpAny _ _ (do
    let r ← isInstance (.ref x) (.type "tuple")
    _) _ _ s
  refine wpAny_bind (ref_isInst X I hsub ?_)
  exact wpAny_pure q
theorem dict_eq_declK (X : K.In s.heap) (I : PySem.W.InstAt s.heap x ox C od) (hsub : PySem.W.subIn K (.ref C) (.type "dict") = some false) (q : R (.ok (.ret .notImplemented)) s) :
    wpAny (model prog w) A.in1 (Builtin.«dict.__eq__» ⟨[.ref l, .ref x], []⟩) (GQ.FinOf prog w A R) (fun e s' => R (.error e) s') s := by
  unfold Builtin.«dict.__eq__»
  show wpAny _ _ (do
    let r ← isInstance (.ref x) (.type "dict")
    _) _ _ s
  refine wpAny_bind (ref_isInst X I hsub ?_)
  exact wpAny_bind (wpAny_rule (wpAny_pure q))
end

section
variable {X : Cx} {CX : CXT} {n : Nat} {g : Addr} {fd : FuncData} {ps : List Str} {sp : Sp} {E : XK}
/-- a def run from within a builtin's body -/
theorem run_fnA {A : Around} {pins : List (Addr × Obj)} {σ : L2.St} {H : Hp} {s : Shared} {Q : VK} {us : List Value} {vs : List V} (F : FnOk X.prog X.w X.K X.mg X.base CX n g fd ps sp) (hr : Room n A) (hA : A.frames = X.A.frames) (hb : Binds X.K fd ps []) (hx : Passes CX X E)
    (I : Inv X pins σ H s) (r : Vals vs us) (h : sp vs H Q E) : wpAny (model X.prog X.w) A (call (.ref g) us) (EP X pins σ Q) X.xe s := by
  have e0 : Env0 X.prog X.w X.K X.mg X.base A X.stack s H := by
    have e := I.env0
    exact ⟨hA.trans e.frames, e.mod, e.bs, e.bsz, e.funs, e.frf, e.hok, e.bare⟩
  have hl : us.length = ps.length := r.length.symm.trans (F.len _ _ _ _ h)
  have hbb := hb s us I.kIn (by simpa using hl)
  rw [List.append_nil] at hbb
  refine wpAny_call (codeAny_mono (F.run A X.stack s H ⟨us, []⟩ us vs Q E hr e0 hbb r h) fun r s' hq => ?_)
  cases r with
  | error e => exact hx pins σ H s e s' I hq
  | ok fl =>
    cases fl with
    | ret u => exact I.after hq
    | next => exact False.elim hq
    | brk => exact False.elim hq
    | cont => exact False.elim hq
end

/-- the class at C stands below none of the built-in types met here -/
structure NoSub (K : PySem.W.Frag) (C : Addr) : Prop where
  all : ∀ T ∈ ["int", "bool", "str", "NoneType", "list", "tuple", "dict"], PySem.W.subIn K (.ref C) (.type T) = some false
/-- values of the built-in kinds whose == declines an own instance -/
inductive Dec (H : Hp) : V → String → Prop where
  | non : Dec H .non "NoneType"
  | bl (b : Bool) : Dec H (.bl b) "bool"
  | int (i : Int) : Dec H (.int i) "int"
  | str (x : Str) : Dec H (.str x) "str"
  | lst {a : Addr} {xs : List V} (e : H a = some (.lst xs)) : Dec H (.ref a) "list"
  | tup {a : Addr} {xs : List V} (e : H a = some (.tup xs)) : Dec H (.ref a) "tuple"
  | dK {a : Addr} {kvs : List (Key × V)} (e : H a = some (.dK kvs)) : Dec H (.ref a) "dict"
theorem Dec.mem {H : Hp} {x : V} {T : String} (d : Dec H x T) : T ∈ ["int", "bool", "str", "NoneType", "list", "tuple", "dict"] := by
  cases d <;> simp
theorem Dec.typ {K : PySem.W.Frag} {H : Hp} {x : V} {T : String} (d : Dec H x T) : TyX K H x (.type T) := by
  cases d with
  | non => exact .base .non
  | bl b => exact .base (.bl b)
  | int i => exact .base (.int i)
  | str y => exact .base (.str y)
  | lst e => exact .base (.lst e)
  | tup e => exact .base (.tup e)
  | dK e => exact .base (.dK e)
section
variable {X : Cx} {CX : CXT} {n : Nat} {C g : Addr} {fd : FuncData} {ps : List Str} {sp : Sp} {E : XK}
theorem dec_try {pins : List (Addr × Obj)} {σ : L2.St} {H : Hp} {s : Shared} {x : V} {v : Value} {T : String} {a dx : Addr} {od : Option Obj} (I : Inv X pins σ H s) (r : RelV x v) (d : Dec H x T)
    (J : PySem.W.InstAt s.heap a (PySem.W.instObj C dx) C od) (hsub : PySem.W.subIn X.K (.ref C) (.type T) = some false) {A : Around} {E : Value → Shared → Prop} {R : Option Value → Shared → Prop} (q : R none s) :
    wpAny (model X.prog X.w) A (tryCompare v "__eq__" (.ref a)) R E s := by
  cases d with
  | non =>
    cases (show v = Value.none from r)
    exact wpAny_tryCompare_declines (T := "NoneType") rfl F.slot_NoneType_eq (call_gives F.slot_NoneType_eq rfl F.entry_NoneType_eq (F.args_NoneType_eq_2 _ _) (NoneType___eq___none_ref_0 a) ⟨rfl, q⟩)
  | bl b =>
    cases (show v = Value.bool b from r)
    exact wpAny_tryCompare_declines (T := "bool") rfl F.slot_bool_eq (call_meets F.slot_bool_eq rfl F.entry_int_eq (F.args_int_eq_2 _ _) (bool_eq_decl b a C dx) ⟨J.at_, rfl, q⟩)
  | int i =>
    obtain ⟨t, e⟩ := (show ∃ t, v = Value.int i t from r)
    cases e
    exact wpAny_tryCompare_declines (typeIs_int s i t) F.slot_int_eq (call_meets F.slot_int_eq (typeIs_int s i t) F.entry_int_eq (F.args_int_eq_2 _ _) (int_eq_decl i t a C dx) ⟨J.at_, rfl, q⟩)
  | str y =>
    obtain ⟨t, e⟩ := (show ∃ t, v = Value.str y t from r)
    cases e
    exact wpAny_tryCompare_declines (typeIs_str s y t) F.slot_str_eq (call_meets F.slot_str_eq (typeIs_str s y t) F.entry_str_eq (F.args_str_eq_2 _ _) (str_eq_decl y t a C dx) ⟨J.at_, rfl, q⟩)
  | @lst b xs e =>
    cases (show v = Value.ref b from r)
    obtain ⟨_, its, k, _, h1⟩ := (show ObjOk X.prog X.w H s.heap b (.lst xs) from I.hok b _ e)
    exact wpAny_tryCompare_declines ⟨_, h1, rfl⟩ F.slot_list_eq (GQ.call_here F.slot_list_eq ⟨_, h1, rfl⟩ F.entry_list_eq (F.args_list_eq_2 _ _) (list_eq_declK I.kIn J hsub ⟨rfl, q⟩))
  | @tup b xs e =>
    cases (show v = Value.ref b from r)
    obtain ⟨_, its, _, o, h1, h2, _⟩ := (show ObjOk X.prog X.w H s.heap b (.tup xs) from I.hok b _ e)
    exact wpAny_tryCompare_declines ⟨_, h1, h2⟩ F.slot_tuple_eq (GQ.call_here F.slot_tuple_eq ⟨_, h1, h2⟩ F.entry_tuple_eq (F.args_tuple_eq_2 _ _) (tup_eq_declK I.kIn J hsub ⟨rfl, q⟩))
  | @dK b kvs e =>
    cases (show v = Value.ref b from r)
    obtain ⟨_, _, vs, _, o, es, ep, h1, h2, _⟩ := (show ObjOk X.prog X.w H s.heap b (.dK kvs) from I.hok b _ e)
    exact wpAny_tryCompare_declines ⟨_, h1, h2.1⟩ F.slot_dict_eq (GQ.call_here F.slot_dict_eq ⟨_, h1, h2.1⟩ F.entry_dict_eq (F.args_dict_eq_2 _ _) (dict_eq_declK I.kIn J hsub ⟨rfl, q⟩))
theorem dec_one {H : Hp} {x : V} {v : Value} {T : String} (r : RelV x v) (d : Dec H x T) (op : CmpOp) (u : Value) : oneThing? op v u = none := by
  cases d with
  | non => cases (show v = Value.none from r); rfl
  | bl b => cases (show v = Value.bool b from r); rfl
  | int i => obtain ⟨t, e⟩ := (show ∃ t, v = Value.int i t from r); cases e; rfl
  | str y => obtain ⟨t, e⟩ := (show ∃ t, v = Value.str y t from r); cases e; rfl
  | @lst b xs e => cases (show v = Value.ref b from r); rfl
  | @tup b xs e => cases (show v = Value.ref b from r); rfl
  | @dK b xs e => cases (show v = Value.ref b from r); rfl

/-- x == y, x of a built-in kind, y an instance of the class at C with its own == at g -/
def rOwnR (C : Addr) (sp : Sp) (E : XK) : R2 := fun x y H Q => ∃ T a dx fs, y = .ref a ∧ H a = some (.ins C dx fs) ∧ Dec H x T ∧ sp [y, x] H Q E
theorem op_ownR (hs : PySem.W.findIn X.K (.ref C) "__eq__" = some (some (.ref g))) (hf : PySem.W.isFn X.K (.ref g) = true) (hN : NoSub X.K C)
    (F : FnOk X.prog X.w X.K X.mg X.base CX n g fd ps sp) (hb : Binds X.K fd ps []) (hr : Room n X.A) (hx : Passes CX X E) : OpR X (compareOp .Eq) (rOwnR C sp E) := by
  intro pins s σ H x y v u Q I rx ry h
  obtain ⟨T, a, dx, fs, rfl, ha, d, q⟩ := h
  cases (show u = Value.ref a from ry)
  obtain ⟨od, J⟩ := inst_of I ha
  obtain ⟨P, kt, hP, _⟩ := kit_of I rx d.typ
  have hsub := hN.all T d.mem
  show wpAny (model X.prog X.w) X.A (richCompare .Eq v (.ref a)) (EP X pins σ Q) X.xe s
  refine cmp_KR (op := .Eq) (T := T) hr.units0 (dec_one rx d _ _) (kt.ty _ _ I.kIn hP) I.kIn J hsub (fun E R hR => dec_try I rx d J hsub hR) ?_
  unfold tryCompare
  refine wpAny_bind (PySem.W.ifBound_K I.kIn J hs hf ?_)
  refine wpAny_mono (run_fn (us := [.ref a, v]) (vs := [.ref a, x]) (dvs := []) (ds := []) F hr hb .nil hx I (.cons rfl (.cons rx .nil)) (by simpa using q)) (fun w s' z => ?_) fun _ _ x => x
  obtain ⟨z', H', I', rz, qz⟩ := z
  have cb : PySem.W.CmpBack (fun w s' => EP X pins σ Q w s') w s' := SlX.cmpback rz ⟨z', H', I', rz, qz⟩
  cases w <;> first | exact cb.elim | exact wpAny_pure ⟨_, rfl, cb⟩

/-- what the own == gives, for != -/
def neQ (Q : VK) : VK := fun z H' => ∃ k, z = .bl k ∧ Q (.bl (!k)) H'
/-- x != y by the own == of x, an instance -/
def rOwnNeL (K : PySem.W.Frag) (C : Addr) (sp : Sp) (E : XK) : R2 := fun x y H Q => ∃ a dx fs tb, x = .ref a ∧ H a = some (.ins C dx fs) ∧ TyX K H y tb ∧ PySem.W.notFirst K C tb = true ∧ sp [x, y] H (neQ Q) E
theorem op_ownNeL (hne : PySem.W.findIn X.K (.ref C) "__ne__" = some (some (.builtin "object.__ne__"))) (hm : PySem.W.mroIn X.K C (.type "object") = some true)
    (hs : PySem.W.findIn X.K (.ref C) "__eq__" = some (some (.ref g))) (hf : PySem.W.isFn X.K (.ref g) = true)
    (F : FnOk X.prog X.w X.K X.mg X.base CX n g fd ps sp) (hb : Binds X.K fd ps []) (hr : Room (n + 1) X.A) (hx : Passes CX X E) : OpR X (compareOp .NotEq) (rOwnNeL X.K C sp E) := by
  intro pins s σ H x y v u Q I rx ry h
  obtain ⟨a, dx, fs, tb, rfl, ha, ty, hn, q⟩ := h
  cases (show v = Value.ref a from rx)
  obtain ⟨od, J⟩ := inst_of I ha
  obtain ⟨P, kt, hP, _⟩ := kit_of I ry ty
  show wpAny (model X.prog X.w) X.A (richCompare .NotEq (.ref a) u) (EP X pins σ Q) X.xe s
  refine ne_K (tb := tb) hr.in1.units0 I.kIn J (kt.ty _ _ I.kIn hP) hn hne hm hs hf ?_
  refine wpAny_mono (run_fnA (us := [.ref a, u]) (vs := [.ref a, y]) F hr.in1 rfl hb hx I (.cons rfl (.cons ry .nil)) q) (fun w s' z => ?_) fun _ _ x => x
  obtain ⟨z', H', I', rz, qz⟩ := z
  obtain ⟨k, ez, qz⟩ := qz
  subst ez
  cases (show w = Value.bool _ from rz)
  exact ⟨_, rfl, .bl _, H', I', rfl, qz⟩

/-- i != y, i an int, y an instance of the class at C -/
def rOwnNeR (C : Addr) (sp : Sp) (E : XK) : R2 := fun x y H Q => ∃ i a dx fs, x = .int i ∧ y = .ref a ∧ H a = some (.ins C dx fs) ∧ sp [y, x] H (neQ Q) E
theorem op_ownNeR (hne : PySem.W.findIn X.K (.ref C) "__ne__" = some (some (.builtin "object.__ne__"))) (hm : PySem.W.mroIn X.K C (.type "object") = some true)
    (hs : PySem.W.findIn X.K (.ref C) "__eq__" = some (some (.ref g))) (hf : PySem.W.isFn X.K (.ref g) = true) (hN : NoSub X.K C)
    (F : FnOk X.prog X.w X.K X.mg X.base CX n g fd ps sp) (hb : Binds X.K fd ps []) (hr : Room (n + 1) X.A) (hx : Passes CX X E) : OpR X (compareOp .NotEq) (rOwnNeR C sp E) := by
  intro pins s σ H x y v u Q I rx ry h
  obtain ⟨i, a, dx, fs, rfl, rfl, ha, q⟩ := h
  cases (show u = Value.ref a from ry)
  obtain ⟨t, e⟩ := (show ∃ t, v = Value.int i t from rx)
  cases e
  obtain ⟨od, J⟩ := inst_of I ha
  show wpAny (model X.prog X.w) X.A (richCompare .NotEq (.int i t) (.ref a)) (EP X pins σ Q) X.xe s
  refine cmp_KR (op := .NotEq) (T := "int") hr.units0 rfl (PySem.W.Looks.of_pure rfl) I.kIn J (hN.all _ (by simp)) (fun E R hR => ?_) ?_
  · exact wpAny_tryCompare_declines (typeIs_int s i t) PySem.F.slot_int_ne (call_meets PySem.F.slot_int_ne (typeIs_int s i t) PySem.F.entry_int_ne (PySem.F.args_int_ne_2 _ _) (int_ne_decl i t a C _) ⟨J.at_, rfl, hR⟩)
  · unfold tryCompare
    refine wpAny_bind (ifBound_B I.kIn J hne PySem.F.cmp_object.ne.bind (objNe_own hr.in1.units0 I.kIn J hm hs hf ?_))
    refine wpAny_mono (run_fnA (us := [.ref a, .int i t]) (vs := [.ref a, .int i]) F hr.in1 rfl hb hx I (.cons rfl (.cons rx .nil)) q) (fun w s' z => ?_) fun _ _ x => x
    obtain ⟨z', H', I', rz, qz⟩ := z
    obtain ⟨k, ez, qz⟩ := qz
    subst ez
    cases (show w = Value.bool _ from rz)
    exact ⟨k, rfl, wpAny_pure ⟨_, rfl, .bl _, H', I', rfl, qz⟩⟩

/-- str(x), repr(x), bool(x) of an instance by its own defs -/
def rOwnStr (C : Addr) (sp : Sp) (E : XK) : List V → Hp → VK → Prop := fun xs H Q => ∃ a dx fs, xs = [V.ref a] ∧ H a = some (.ins C dx fs) ∧ sp [.ref a] H (fun z H' => ∃ y, z = .str y ∧ Q z H') E
theorem call_reprOwn (hs : PySem.W.findIn X.K (.ref C) "__repr__" = some (some (.ref g))) (hf : PySem.W.isFn X.K (.ref g) = true)
    (F : FnOk X.prog X.w X.K X.mg X.base CX n g fd ps sp) (hb : Binds X.K fd ps []) (hr : Room (n + 1) X.A) (hx : Passes CX X E) : CallR X (.builtin "repr") (rOwnStr C sp E) := by
  intro pins s σ H xs us Q I r h
  obtain ⟨a, dx, fs, rfl, ha, q⟩ := h
  obtain ⟨u, rfl, ru⟩ := r.one
  cases (show u = Value.ref a from ru)
  obtain ⟨od, J⟩ := inst_of I ha
  obtain ⟨m, hF⟩ := I.fr
  refine PySem.W.repr_K hr.in1.units0 hF I.ok.mod.kin J hs hf ?_
  refine wpAny_mono (run_fnA (us := [.ref a]) (vs := [.ref a]) F hr.in1 rfl hb hx I (.cons rfl .nil) q) (fun w s' z => ?_) fun _ _ x => x
  obtain ⟨z', H', I', rz, qz⟩ := z
  obtain ⟨y, ez, qz⟩ := qz
  subst ez
  obtain ⟨t, e⟩ := (show ∃ t, w = Value.str y t from rz)
  cases e
  exact ⟨.str y, H', I', ⟨t, rfl⟩, qz⟩
end
end SF

namespace SFx
open PySem PySem.Spec PyProof.Rows
section
variable {prog : Program} {w : World} {A : Around} {E : Value → Shared → Prop} {s : Shared} {K : PySem.W.Frag} {x C f : Addr} {ox : Obj} {od : Option Obj}
open Builtin Builtin.Str in
/-- str(x) by an own __str__ -/
theorem str_own {Q : Value → Shared → Prop} (hu : A.in1.in1.units < cLine) (X : K.In s.heap) (I : PySem.W.InstAt s.heap x ox C od) (hs : PySem.W.findIn K (.ref C) "__str__" = some (some (.ref f)))
    (hf : PySem.W.isFn K (.ref f) = true) (h : wpAny (model prog w) A.in1.in1 (call (.ref f) [.ref x]) (PySem.W.StrBack Q) E s) : wpAny (model prog w) A (call (.type "str") [.ref x]) Q E s := by
  refine callType_codes (T := "str") (Bi := Builtin.«object.__init__») (Q₁ := fun r s₁ => ∃ y u, r = .str y u ∧ Q r s₁) PySem.F.called_str (PySem.F.typeCall_str_1 _) PySem.F.entry_object_init ?_ ?_
  · refine codeAny_of_tree ?_
    show wpAny _ A.in1.in1 (do checkBuiltinCall "str.__new__" ⟨[.type "str", .ref x], []⟩; again (.builtin "str.__new__" ⟨[.type "str", .ref x], []⟩)) _ _ s
    refine wpAny_bind (wpAny_of_eq (PySem.F.newCall_str_1 _) (wpAny_pure ⟨plainId_quiet (by decide +kernel) _, codeAny_builtin PySem.F.entry_str_new ?_⟩))
    rw [Around.under_plainId (by decide +kernel) _]
    rw [str_new_tree]
    refine wpAny_bind (wpAny_pure ?_)
    refine wpAny_bind (wpAny_of_eq isSubtype_str_str ?_)
    have key : wpAny (model prog w) A.in1.in1 (PySem.Builtin.Str.strOf (.ref x)) (fun r s₁ => ∃ y u, r = .str y u ∧ Q r s₁) E s := by
      unfold PySem.Builtin.Str.strOf
      rw [show isExactStr (.ref x) = false from rfl]
      refine wpAny_bind (m := cRoomFor _ _) (wpAny_cRoomFor hu ?_)
      refine wpAny_bind (m := callSpecial? (.ref x) (Str.ofString "__str__")) (PySem.W.special_fn X I hs (beq_iff_eq.mp hf) (wpAny_mono h (fun r s' z => ?_) fun _ _ y => y))
      cases r <;> first | exact z.elim | exact wpAny_pure ⟨_, _, rfl, z⟩
    exact wpAny_bind (wpAny_mono key (fun r s₁ hr => wpAny_pure hr) fun _ _ y => y)
  · rintro obj s₁ ⟨y, u, rfl, hq⟩
    exact ⟨typeIs_str _ _ _, PySem.F.args_object_init_2 _ _, object_init_meets PySem.F.called_str.init.lookup PySem.F.called_str.made (by decide) prog w A.in1 _ s₁ ⟨typeIs_str _ _ _, rfl, hq⟩⟩

theorem meets_bool_own : MeetsIn prog w (Builtin.«bool.__new__» ⟨[.type "bool", .ref x], []⟩)
    (fun A R s => wpAny (model prog w) A.in1 (truthy (.ref x)) (fun b s' => R (.ok (.ret (.bool b))) s') (fun e s' => R (.error e) s') s) :=
  MeetsIn.of_wp fun A R s hs => by
    have f1 := PySem.F.conv_sub_bool
    have hs' : wpAny (model prog w) A.in1 (truthy (.ref x)) (fun b s' => wpAny (model prog w) A.in1 (ret (.bool b)) (fun fin s' => ∃ v, fin = .done (.ret v) ∧ R (.ok (.ret v)) s') (fun e s' => R (.error e) s') s') (fun e s' => R (.error e) s') s :=
      wpAny_mono hs (fun b s' q => wpAny_pure ⟨_, rfl, q⟩) fun _ _ e => e
    unfold Builtin.«bool.__new__»
    repeat (any_goals (first | assumption | exact wpAny_bind hs' | (with_reducible refine wpAny_bind hs' ) | wp_step))
theorem bool_own {Q : Value → Shared → Prop} (h : wpAny (model prog w) A.in1.in1 (truthy (.ref x)) (fun b s' => Q (.bool b) s') E s) : wpAny (model prog w) A (call (.type "bool") [.ref x]) Q E s :=
  callType_newIn PySem.F.called_bool PySem.F.newNe_bool (PySem.F.typeCall_bool_1 _) (PySem.F.newCall_bool_1 _) (fun obj => PySem.F.args_object_init_2 obj _) PySem.F.entry_bool_new meets_bool_own
    (wpAny_mono h (fun b s' q => ⟨rfl, q⟩) fun _ _ e => e)
end
end SFx
namespace SF
open PySem PySem.Spec PyProof.Rows L2
section
variable {X : Cx} {CX : CXT} {n : Nat} {C g : Addr} {fd : FuncData} {ps : List Str} {sp : Sp} {E : XK}
theorem call_strOwn (hs : PySem.W.findIn X.K (.ref C) "__str__" = some (some (.ref g))) (hf : PySem.W.isFn X.K (.ref g) = true)
    (F : FnOk X.prog X.w X.K X.mg X.base CX n g fd ps sp) (hb : Binds X.K fd ps []) (hr : Room (n + 2) X.A) (hx : Passes CX X E) : CallR X (.type "str") (rOwnStr C sp E) := by
  intro pins s σ H xs us Q I r h
  obtain ⟨a, dx, fs, rfl, ha, q⟩ := h
  obtain ⟨u, rfl, ru⟩ := r.one
  cases (show u = Value.ref a from ru)
  obtain ⟨od, J⟩ := inst_of I ha
  have hr2 : Room n X.A.in1.in1 := (show Room (n + 1) X.A.in1 from Room.in1 hr).in1
  refine SFx.str_own hr2.units0 I.kIn J hs hf ?_
  refine wpAny_mono (run_fnA (us := [.ref a]) (vs := [.ref a]) F hr2 rfl hb hx I (.cons rfl .nil) q) (fun w s' z => ?_) fun _ _ x => x
  obtain ⟨z', H', I', rz, qz⟩ := z
  obtain ⟨y, ez, qz⟩ := qz
  subst ez
  obtain ⟨t, e⟩ := (show ∃ t, w = Value.str y t from rz)
  cases e
  exact ⟨.str y, H', I', ⟨t, rfl⟩, qz⟩
def rOwnBool (C : Addr) (sp : Sp) (E : XK) : List V → Hp → VK → Prop := fun xs H Q => ∃ a dx fs, xs = [V.ref a] ∧ H a = some (.ins C dx fs) ∧ sp [.ref a] H (fun z H' => ∃ k, z = .bl k ∧ Q (.bl k) H') E
theorem call_boolOwn (hs : PySem.W.findIn X.K (.ref C) "__bool__" = some (some (.ref g))) (hf : PySem.W.isFn X.K (.ref g) = true)
    (F : FnOk X.prog X.w X.K X.mg X.base CX n g fd ps sp) (hb : Binds X.K fd ps []) (hr : Room (n + 2) X.A) (hx : Passes CX X E) : CallR X (.type "bool") (rOwnBool C sp E) := by
  intro pins s σ H xs us Q I r h
  obtain ⟨a, dx, fs, rfl, ha, q⟩ := h
  obtain ⟨u, rfl, ru⟩ := r.one
  cases (show u = Value.ref a from ru)
  obtain ⟨od, J⟩ := inst_of I ha
  obtain ⟨m, hF⟩ := I.fr
  have hr2 : Room n X.A.in1.in1 := (show Room (n + 1) X.A.in1 from Room.in1 hr).in1
  refine SFx.bool_own (PySem.W.truthy_K hF I.ok.mod.kin J hs hf ?_)
  refine wpAny_mono (run_fnA (us := [.ref a]) (vs := [.ref a]) F hr2 rfl hb hx I (.cons rfl .nil) q) (fun w s' z => ?_) fun _ _ x => x
  obtain ⟨z', H', I', rz, qz⟩ := z
  obtain ⟨k, ez, qz⟩ := qz
  subst ez
  cases (show w = Value.bool k from rz)
  exact ⟨.bl k, H', I', rfl, qz⟩
end

/-! ### repr of a list of flat things -/
def flatD : V → Option PyData
  | .non => some .none
  | .bl b => some (.bool b)
  | .int i => if i.natAbs.log2 < 1920 then some (.int i) else none
  | .str x => some (.str x)
  | _ => none
def flatDs : List V → Option (List PyData)
  | [] => some []
  | x :: xs => match flatD x, flatDs xs with
    | some d, some ds => some (d :: ds)
    | _, _ => none
theorem flat_reads {h : Heap} {x : V} {v : Value} {d : PyData} (r : RelV x v) (e : flatD x = some d) : Reads h v d [] ∧ d.showable = true ∧ d.depth = 0 ∧ d.hasDict = false := by
  cases x with
  | non => cases e; cases (show v = Value.none from r); exact ⟨.none, rfl, rfl, rfl⟩
  | bl b => cases e; cases (show v = Value.bool b from r); exact ⟨.bool b, rfl, rfl, rfl⟩
  | int i =>
    obtain ⟨t, rfl⟩ := (show ∃ t, v = Value.int i t from r)
    have e' : (if i.natAbs.log2 < 1920 then some (PyData.int i) else none) = some d := e
    by_cases hi : i.natAbs.log2 < 1920
    · rw [if_pos hi] at e'
      cases e'
      exact ⟨.int i t, by simp [PyData.showable, hi], rfl, rfl⟩
    · rw [if_neg hi] at e'
      cases e'
  | str y =>
    obtain ⟨t, rfl⟩ := (show ∃ t, v = Value.str y t from r)
    cases e
    exact ⟨.str y t, rfl, rfl, rfl⟩
  | byt _ => cases e
  | flt _ => cases e
  | ref _ => cases e
  | ty _ => cases e
theorem flats_reads {h : Heap} : ∀ {xs : List V} {vs : List Value} {ds : List PyData}, Vals xs vs → flatDs xs = some ds → ReadsAll h vs ds [] ∧ PyData.showableAll ds = true ∧ PyData.depthAll ds = 0 ∧ PyData.hasDictAll ds = false
  | _, _, _, .nil, e => by cases e; exact ⟨.nil, rfl, rfl, rfl⟩
  | _, _, _, .cons r t, e => by
    unfold flatDs at e
    split at e
    · rename_i d ds h1 h2
      cases e
      obtain ⟨a1, a2, a3, a4⟩ := flat_reads (h := h) r h1
      obtain ⟨b1, b2, b3, b4⟩ := flats_reads t h2
      exact ⟨.cons a1 b1, by simp [PyData.showableAll, a2, b2], by simp [PyData.depthAll, a3, b3], by simp [PyData.hasDictAll, a4, b4]⟩
    · cases e
section
variable {X : Cx}
def rReprL : List V → Hp → VK → Prop := fun xs H Q => ∃ a zs ds, xs = [V.ref a] ∧ H a = some (.lst zs) ∧ flatDs zs = some ds ∧ (PyData.list ds).shown.length ≤ sizeLine ∧ Q (.str (PyData.list ds).shown) H
theorem call_reprL {k : Nat} (hg : X.A.guards = some []) (hr : Room k X.A) : CallR X (.builtin "repr") rReprL := by
  intro pins s σ H xs us Q I r h
  obtain ⟨a, zs, ds, rfl, ha, hd, hz, q⟩ := h
  obtain ⟨u, rfl, ru⟩ := r.one
  cases (show u = Value.ref a from ru)
  obtain ⟨_, its, n, rv, h1⟩ := (show ObjOk X.prog X.w H s.heap a (.lst zs) from I.hok a _ ha)
  obtain ⟨b1, b2, b3, b4⟩ := flats_reads (h := s.heap) rv hd
  have R : Reads s.heap (.ref a) (.list ds) [a] := .list (as := []) h1 rfl rfl (by simpa using b1)
  refine repr_of_reads' R (by simpa [PyData.showable] using b2) (PyData.noDict_hsm (by simpa [PyData.hasDict] using b4)) hg (by have := hr.un; simp only [PyData.depth, b3]; omega) (fun _ _ e => e) (fun h' u tk hk => ?_) hz
  exact ⟨.str _, H, I.kept hk, ⟨u, rfl⟩, q⟩
end
end SF

/-! Tuples whose items compare by own defs; enumerate over a tuple; len, truth by an own length; != with an own instance on the right. -/
namespace SKx
open PySem PySem.SeqAt
open AutoSeq1 (wpAny_loadPart')
section
variable {prog : Program} {w : World} {A : Around} {R : Result → Shared → Prop}
theorem all_cut {e : Nat → Bool} {m i : Nat} (hi : i < m) (h : e i = false) : (List.range m).all e = false := by
  rw [List.all_eq_false]
  exact ⟨i, List.mem_range.mpr hi, by rw [h]; decide⟩
theorem all_whole {e : Nat → Bool} {m i : Nat} (hi : m ≤ i) (h : ∀ j, j < i → e j = true) : (List.range m).all e = true :=
  List.all_eq_true.mpr fun j hj => h j (Nat.lt_of_lt_of_le (List.mem_range.mp hj) hi)
/-- two tuples compared, each pair of items telling e, the state kept by I -/
theorem tup_eqB (l b : Addr) (us vs : Array Value) (n1 n2 : Nat) (da db : Option Addr) (sa sb : Array (Option Value)) (e : Nat → Bool) (I : Shared → Prop)
    (one : ∀ i (h1 : i < us.size) (h2 : i < vs.size) s, I s → wpAny (model prog w) A.in1 (eqBool us[i] vs[i]) (fun r s' => r = e i ∧ I s') (fun z s' => R (.error z) s') s)
    (out : ∀ s, I s → R (.ok (.ret (.bool ((List.range (min us.size vs.size)).all e && us.size == vs.size)))) s) {s : Shared}
    (ha : s.heap.get? l = some { cls := .type "tuple", dict := da, data := .seq us n1, slots := sa }) (hb : s.heap.get? b = some { cls := .type "tuple", dict := db, data := .seq vs n2, slots := sb }) (h : I s) :
    wpAny (model prog w) A.in1 (Builtin.«tuple.__eq__» ⟨[.ref l, .ref b], []⟩) (GQ.FinOf prog w A R) (fun z s' => R (.error z) s') s := by
  have f2 := AutoSeq1.sub_tuple_tuple
  have hL : (us.toList.zip vs.toList).length = min us.size vs.size := by simp
  have h0 := h
  obtain ⟨hp, g, d, tk, os⟩ := s
  wp_walk using wpAny_loadPart' ha, wpAny_loadPart' hb, wpAny_forIn_list _ (fun rest c s' => c.1 = none ∧ ∃ i, rest = (us.toList.zip vs.toList).drop i ∧ (∀ j, j < i → e j = true) ∧ I s') _
  case turn =>
    rintro ⟨y, x⟩ rest c s' ⟨hc, i, hz, hi, hI⟩
    have hlt : i < (us.toList.zip vs.toList).length := by
      rcases Nat.lt_or_ge i (us.toList.zip vs.toList).length with q | q
      · exact q
      · rw [List.drop_of_length_le q] at hz; cases hz
    have hm : i < min us.size vs.size := hL ▸ hlt
    have k1 : i < us.size := Nat.lt_of_lt_of_le hm (Nat.min_le_left _ _)
    have k2 : i < vs.size := Nat.lt_of_lt_of_le hm (Nat.min_le_right _ _)
    rw [List.drop_eq_getElem_cons hlt] at hz
    injection hz with hyx hrest
    have ey : y = us[i] := by simpa using congrArg Prod.fst hyx
    have ex : x = vs[i] := by simpa using congrArg Prod.snd hyx
    subst ey ex
    refine wpAny_bind (wpAny_mono (one i k1 k2 s' hI) (fun r s2 q2 => ?_) fun _ _ x => x)
    obtain ⟨hr, q2⟩ := q2
    cases he : e i with
    | true =>
      rw [he] at hr
      subst hr
      wp_walk
      exact ⟨rfl, i + 1, hrest, fun j hj => (Nat.lt_succ_iff_lt_or_eq.mp hj).elim (hi j) fun q => q ▸ he, q2⟩
    | false =>
      rw [he] at hr
      subst hr
      have q3 := out s2 q2
      rw [all_cut hm he, Bool.false_and] at q3
      wp_walk
      exact q3
  case fin =>
    rintro ⟨c1, c2⟩ s' ⟨hc, i, hz, hi, hI⟩
    simp only at hc
    subst hc
    have hge : min us.size vs.size ≤ i := by
      rcases Nat.lt_or_ge i (us.toList.zip vs.toList).length with q | q
      · rw [List.drop_eq_getElem_cons q] at hz; cases hz
      · exact hL ▸ q
    have q3 := out s' hI
    rw [all_whole hge hi, Bool.true_and] at q3
    wp_walk
    simpa [Builtin.Tuple.tupleCompareSizes] using q3
  case h =>
    exact ⟨rfl, 0, rfl, fun j hj => absurd hj (Nat.not_lt_zero j), h0⟩
end
section
variable {prog : Program} {w : World} {A : Around} {E : Value → Shared → Prop} {s : Shared}
theorem rc_tupB {l b : Addr} {us vs : Array Value} {e : Nat → Bool} {Q : Value → Shared → Prop} (hu : A.units < cLine) (I : Shared → Prop) (ha : s.heap.IsTuple l us) (hb : s.heap.IsTuple b vs)
    (one : ∀ i (h1 : i < us.size) (h2 : i < vs.size) s, I s → wpAny (model prog w) A.in1 (eqBool us[i] vs[i]) (fun r s' => r = e i ∧ I s') E s)
    (out : ∀ s, I s → Q (.bool ((List.range (min us.size vs.size)).all e && us.size == vs.size)) s) (h : I s) : wpAny (model prog w) A (richCompare .Eq (.ref l) (.ref b)) Q E s := by
  obtain ⟨⟨c1, d1, t1, s1⟩, ho, hc, n, hd⟩ := id ha
  obtain ⟨⟨c2, d2, t2, s2⟩, ho2, hc2, n2, hd2⟩ := id hb
  simp only at hc hd hc2 hd2
  subst hc hd hc2 hd2
  refine wpAny_richCompare_same_room (op := .Eq) ⟨_, ho, rfl⟩ ⟨_, ho2, rfl⟩ F.slot_tuple_eq (GQ.call_here F.slot_tuple_eq ⟨_, ho, rfl⟩ F.entry_tuple_eq (F.args_tuple_eq_2 _ _) ?_) hu
  exact tup_eqB (R := wants (fun v s' => v ≠ .notImplemented ∧ Q v s') E) l b us vs n n2 d1 d2 s1 s2 e I one (fun s' q => ⟨(fun x => nomatch x), out s' q⟩) ho ho2 h
end
end SKx
namespace SK
open PySem PySem.Spec PyProof.Rows L2 SF
open AutoSeq1 (wpAny_loadPart')
/-- == of a thing like x with one like y gives r (D x y H r), and only makes objects -/
abbrev EqD := V → V → Hp → Bool → Prop
def EqB (X : Cx) (n : Nat) (D : EqD) : Prop :=
  ∀ (A : Around) (pins : List (Addr × Obj)) (s : Shared) (σ : L2.St) (H : Hp) (x y : V) (u v : Value) (k : Bool), Sub X n A → Inv X pins σ H s → RelV x u → RelV y v → D x y H k →
    wpAny (model X.prog X.w) A (eqBool u v) (fun r s' => r = k ∧ ∃ H', Inv X pins σ H' s' ∧ Same H H') X.xe s
/-- the two tuples item by item -/
def Rows (D : EqD) (e : Nat → Bool) (xs ys : List V) (H : Hp) : Prop := ∀ (i : Nat) x y, xs[i]? = some x → ys[i]? = some y → D x y H (e i)
def allB (e : Nat → Bool) (n m : Nat) : Bool := (List.range (min n m)).all e && n == m
section
variable {X : Cx} {n : Nat} {D : EqD}
def rTupB (K : PySem.W.Frag) (D : EqD) : R2 := fun x y H Q => ∃ a b xs ys e, x = .ref a ∧ y = .ref b ∧ SqT K H a xs ∧ SqT K H b ys ∧ Rows D e xs ys H ∧ ∀ H', Same H H' → Q (.bl (allB e xs.length ys.length)) H'
theorem op_tupB (hD : ∀ x y H H' k, Same H H' → D x y H k → D x y H' k) (hE : EqB X n D) (hr : Room (n + 1) X.A) : OpR X (compareOp .Eq) (rTupB X.K D) := by
  intro pins s σ H x y v u Q I rx ry h
  obtain ⟨a, b, xs, ys, e, rfl, rfl, ha, hb, hrow, q⟩ := h
  cases rx
  cases ry
  obtain ⟨us, r1, t1, z1⟩ := I.tuple ha
  obtain ⟨vs, r2, t2, z2⟩ := I.tuple hb
  show wpAny (model X.prog X.w) X.A (richCompare .Eq (.ref a) (.ref b)) (EP X pins σ Q) X.xe s
  refine SKx.rc_tupB (e := e) hr.units0 (fun s' => ∃ H', Inv X pins σ H' s' ∧ Same H H') t1 t2 (fun i h1 h2 s' hI => ?_) (fun s' hI => ?_) ⟨H, I, Same.refl _⟩
  · obtain ⟨H1, I1, e1⟩ := hI
    have g1 : us[i]? = some us.toArray[i] := by
      have h1' : i < us.length := by simpa using h1
      rw [List.getElem?_eq_getElem h1'] <;> simp
    have g2 : vs[i]? = some vs.toArray[i] := by
      have h2' : i < vs.length := by simpa using h2
      rw [List.getElem?_eq_getElem h2'] <;> simp
    have k1 : i < xs.length := by rw [r1.length]; simpa using h1
    have k2 : i < ys.length := by rw [r2.length]; simpa using h2
    obtain ⟨u, hu, ru⟩ := r1.get (List.getElem?_eq_getElem k1)
    obtain ⟨v, hv, rv⟩ := r2.get (List.getElem?_eq_getElem k2)
    rw [g1] at hu
    rw [g2] at hv
    rw [Option.some.inj hu, Option.some.inj hv]
    refine wpAny_mono (hE X.A.in1 pins s' σ H1 _ _ u v (e i) ⟨hr.in1, rfl⟩ I1 ru rv (hD _ _ _ _ _ e1 (hrow i _ _ (List.getElem?_eq_getElem k1) (List.getElem?_eq_getElem k2)))) (fun r s2 q => ?_) fun _ _ x => x
    obtain ⟨hr', H2, I2, e2⟩ := q
    exact ⟨hr', H2, I2, e1.trans e2⟩
  · obtain ⟨H1, I1, e1⟩ := hI
    have el : ((List.range (min us.toArray.size vs.toArray.size)).all e && us.toArray.size == vs.toArray.size) = allB e xs.length ys.length := by
      rw [List.size_toArray, List.size_toArray, ← r1.length, ← r2.length]
      rfl
    refine ⟨.bl (allB e xs.length ys.length), H1, I1, ?_, q H1 e1⟩
    rw [← el]
    rfl
end
/-! ### len and truth by an own __len__ -/
section
variable {X : Cx} {CX : CXT} {n : Nat} {C g : Addr} {fd : FuncData} {ps : List PySem.Str} {sp : Sp} {E : XK}
def rOwnLen (C : Addr) (sp : Sp) (E : XK) : List V → Hp → VK → Prop := fun xs H Q => ∃ a dx fs, xs = [V.ref a] ∧ H a = some (.ins C dx fs) ∧ sp [.ref a] H (fun z H' => ∃ i : Int, z = .int i ∧ 0 ≤ i ∧ i < 2 ^ 63 ∧ Q (.int i) H') E
theorem call_lenOwn (hs : PySem.W.findIn X.K (.ref C) "__len__" = some (some (.ref g))) (hf : PySem.W.isFn X.K (.ref g) = true)
    (F : FnOk X.prog X.w X.K X.mg X.base CX n g fd ps sp) (hb : Binds X.K fd ps []) (hr : Room (n + 1) X.A) (hx : Passes CX X E) : CallR X (.builtin "len") (rOwnLen C sp E) := by
  intro pins s σ H xs us Q I r h
  obtain ⟨a, dx, fs, rfl, ha, q⟩ := h
  obtain ⟨u, rfl, ru⟩ := r.one
  cases (show u = Value.ref a from ru)
  obtain ⟨od, J⟩ := inst_of I ha
  obtain ⟨m, hF⟩ := I.fr
  refine PySem.W.len_K hF I.ok.mod.kin J hs hf ?_
  refine wpAny_mono (run_fnA (us := [.ref a]) (vs := [.ref a]) F hr.in1 rfl hb hx I (.cons rfl .nil) q) (fun w s' z => ?_) fun _ _ x => x
  obtain ⟨z', H', I', rz, qz⟩ := z
  obtain ⟨i, ez, h0, h1, qz⟩ := qz
  subst ez
  obtain ⟨t, e⟩ := (show ∃ t, w = Value.int i t from rz)
  cases e
  exact ⟨⟨h0, h1⟩, .int i, H', I'.kept (t' := s'.toks + 1) (fun _ _ e => e), ⟨_, rfl⟩, qz⟩
theorem truthy_len {M : Model} {A : Around} {E : Value → Shared → Prop} {s : Shared} {K : PySem.W.Frag} {x C f : Addr} {ox : Obj} {od : Option Obj} {Q : Bool → Shared → Prop} (hM : ∃ prog w, M = model prog w) (X : K.In s.heap) (I : PySem.W.InstAt s.heap x ox C od)
    (hs : PySem.W.findIn K (.ref C) "__bool__" = some none) (hl : PySem.W.findIn K (.ref C) "__len__" = some (some (.ref f))) (hf : PySem.W.isFn K (.ref f) = true)
    (h : wpAny M A.in1 (call (.ref f) [.ref x]) (PySem.W.LenBack fun v s' => ∃ i t, v = .int i t ∧ Q (i != 0) s') E s) : wpAny M A (truthy (.ref x)) Q E s := by
  obtain ⟨prog, w, rfl⟩ := hM
  have key : wpAny (model prog w) A (runValue (.builtin "len" ⟨[.ref x], []⟩)) (fun r s' => ∃ i t, r = .int i t ∧ Q (i != 0) s') E s := by
    refine wpAny_runValue (codeAny_builtin entry_len ?_)
    rw [Around.under_plainId plain_len _]
    unfold Builtin.«len»
    refine wpAny_bind (m := oneArg "len" _) (wpAny_pure ?_)
    refine wpAny_bind (m := callSpecial? (.ref x) (Str.ofString "__len__")) (PySem.W.special_fn X I hl (beq_iff_eq.mp hf) (wpAny_mono h (fun r s' hr => ?_) fun _ _ y => y))
    cases r <;> first | exact hr.elim | skip
    rename_i i u
    obtain ⟨⟨h0, h1⟩, hq⟩ := hr
    refine wpAny_bind (wpAny_holding (wpAny_pure ?_))
    refine wpAny_bind (wpAny_letGo ?_)
    show wpAny _ _ (if i < 0 then _ else _) _ _ _
    rw [if_neg (by omega)]
    show wpAny _ _ (if i ≥ 2 ^ 63 then _ else _) _ _ _
    rw [if_neg (by omega)]
    exact wpAny_bind (wpAny_mkInt (wpAny_pure hq))
  unfold truthy
  refine wpAny_bind (m := callSpecial? (.ref x) (Str.ofString "__bool__")) (wpAny_bind (wpAny_bind (I.type.here ((PySem.W.looks_findIn X hs).here (wpAny_pure ?_)))))
  refine wpAny_bind (wpAny_bind (I.type.here ((PySem.W.looks_findIn X hl).here ?_)))
  refine wpAny_bind (wpAny_mono key (fun r s' z => ?_) fun _ _ e => e)
  obtain ⟨i, t, rfl, hq⟩ := z
  exact wpAny_pure hq
def rOwnBoolL (C : Addr) (sp : Sp) (E : XK) : List V → Hp → VK → Prop := fun xs H Q => ∃ a dx fs, xs = [V.ref a] ∧ H a = some (.ins C dx fs) ∧ sp [.ref a] H (fun z H' => ∃ i : Int, z = .int i ∧ 0 ≤ i ∧ i < 2 ^ 63 ∧ Q (.bl (i != 0)) H') E
theorem call_boolLen (h0 : PySem.W.findIn X.K (.ref C) "__bool__" = some none) (hs : PySem.W.findIn X.K (.ref C) "__len__" = some (some (.ref g))) (hf : PySem.W.isFn X.K (.ref g) = true)
    (F : FnOk X.prog X.w X.K X.mg X.base CX n g fd ps sp) (hb : Binds X.K fd ps []) (hr : Room (n + 3) X.A) (hx : Passes CX X E) : CallR X (.type "bool") (rOwnBoolL C sp E) := by
  intro pins s σ H xs us Q I r h
  obtain ⟨a, dx, fs, rfl, ha, q⟩ := h
  obtain ⟨u, rfl, ru⟩ := r.one
  cases (show u = Value.ref a from ru)
  obtain ⟨od, J⟩ := inst_of I ha
  have hr3 : Room n X.A.in1.in1.in1 := ((show Room (n + 2) X.A.in1 from Room.in1 hr).in1).in1
  refine SFx.bool_own (truthy_len ⟨_, _, rfl⟩ I.kIn J h0 hs hf ?_)
  refine wpAny_mono (run_fnA (us := [.ref a]) (vs := [.ref a]) F hr3 rfl hb hx I (.cons rfl .nil) q) (fun w s' z => ?_) fun _ _ x => x
  obtain ⟨z', H', I', rz, qz⟩ := z
  obtain ⟨i, ez, g0, g1, qz⟩ := qz
  subst ez
  obtain ⟨t, e⟩ := (show ∃ t, w = Value.int i t from rz)
  cases e
  exact ⟨⟨g0, g1⟩, i, s'.toks, rfl, .bl _, H', I'.kept (t' := s'.toks + 1) (fun _ _ e => e), rfl, qz⟩
end
end SK

/-! Operators of own instances: left, right (reflected), both; minus, abs(), +=. -/
namespace SF
open PySem PySem.Spec PyProof.Rows L2
open AutoSeq1 (wpAny_loadPart')
section
variable {prog : Program} {w : World} {A : Around} {E : Value → Shared → Prop} {s : Shared} {K : PySem.W.Frag} {x C f : Addr} {ox : Obj} {od : Option Obj}
/-- what stands in the text for a class whose op is its own def -/
structure OwnOp (K : PySem.W.Frag) (C : Addr) (op : Operator) (f : Addr) : Prop where
  sf : PySem.W.selfFirst K C = true
  hs : PySem.W.findIn K (.ref C) (PySem.dunder op.info.2) = some (some (.ref f))
  hf : PySem.W.isFn K (.ref f) = true
  hr : ∃ rc, PySem.W.findIn K (.ref C) (dunderR op.info.2) = some rc ∧ (rc = none ∨ ∃ g : Addr, rc = some (.ref g))
  h1 : ∃ fo, PySem.W.findIn K (.type "int") (PySem.dunder op.info.2) = some fo
  h2 : ∃ ro, PySem.W.findIn K (.type "int") (dunderR op.info.2) = some ro
  hsub : PySem.W.subIn K (.type "int") (.ref C) = some false
/-- .. and whose reflected op is, too -/
structure OwnOpR (K : PySem.W.Frag) (C : Addr) (op : Operator) (f g : Addr) : Prop where
  sf : PySem.W.selfFirst K C = true
  hs : PySem.W.findIn K (.ref C) (PySem.dunder op.info.2) = some (some (.ref f))
  hr : PySem.W.findIn K (.ref C) (dunderR op.info.2) = some (some (.ref g))
  hg : PySem.W.isFn K (.ref g) = true
  hsub : PySem.W.subIn K (.ref C) (.type "int") = some false
/-- how int's own def for op declines an instance -/
structure IntNo (op : Operator) (idl : String) : Prop where
  fills : fillsNumberSlot (.type "int") op.info.2 = pure true
  slot : Slot "int" (PySem.dunder op.info.2) idl
  no : ∀ (prog : Program) (w : World) (A : Around) (s : Shared) (i : Int) (t : Tok) (x C dx : Addr) (R : Value → Shared → Prop) (E : Value → Shared → Prop), s.heap.get? x = some (PySem.W.instObj C dx) → R .notImplemented s →
    wpAny (model prog w) A (call (.builtin idl) [.int i t, .ref x]) R E s
theorem binop_KR {op : Operator} {idl : String} {i : Int} {t : Tok} {g dx : Addr} {Q : Value → Shared → Prop} (N : IntNo op idl) (O : OwnOpR K C op f g) (X : K.In s.heap) (I : PySem.W.InstAt s.heap x (PySem.W.instObj C dx) C od)
    (h : wpAny (model prog w) A (call (.ref g) [.ref x, .int i t]) (PySem.W.CmpBack Q) E s) : wpAny (model prog w) A (binaryOp op (.int i t) (.ref x)) Q E s := by
  obtain ⟨cd, rest, hcd, hm⟩ := PySem.W.ksp_first O.sf
  have hN1 := N.fills
  have hN2 := N.slot
  have hs := O.hs
  have hr := O.hr
  rcases hi : op.info with ⟨sym, nm'⟩
  rw [hi] at hs hr hN1 hN2
  dsimp only at hs hr hN1 hN2
  have one := PySem.W.ksp_try X I hr O.hg h
  have hne : (Value.type "int" == Value.ref C) = false := Bool.eq_false_iff.mpr fun q => by cases beq_iff_eq.mp q
  simp only [binaryOp, hi]
  refine wpAny_holding (wpAny_bind ?_)
  unfold binaryOp1
  refine wpAny_bind (wpAny_typeOf (typeIs_int s i t) (wpAny_bind (I.type.here (wpAny_bind (wpAny_of_eq hN1 ?_)))))
  simp only [hne, Bool.false_eq_true, if_false]
  refine wpAny_bind ((PySem.W.fills_K X hcd hm hs).here ?_)
  simp only [Bool.and_self, if_true]
  refine wpAny_bind ((PySem.W.looks_subIn X O.hsub).here ?_)
  have hpy : numberSlotInPython (.type "int") nm' = pure false := rfl
  simp only [Bool.false_eq_true, if_false, pure_bind, Bool.not_false, Bool.and_self, if_true, hpy]
  refine wpAny_bind (wpAny_tryMethod_declines (typeIs_int s i t) hN2 (N.no prog w A s i t x C dx _ _ I.at_ ⟨rfl, ?_⟩))
  refine wpAny_bind (wpAny_mono one (fun r s' z => ?_) fun _ _ e => e)
  obtain ⟨v, rfl, hq⟩ := z
  exact wpAny_bind (wpAny_rule (wpAny_pure (wpAny_pure hq)))

theorem noI_inplace {op : Operator} {b : Value} {Q : Value → Shared → Prop} (X : K.In s.heap) (I : PySem.W.InstAt s.heap x ox C od) (hno : PySem.W.Looks (model prog w) s.heap (fillsInplaceSlot (.ref C) op.info.2 (op == .Add)) false)
    (h : wpAny (model prog w) A (binaryOp1 op.info.2 (.ref x) b) (fun r s' => ∃ v, r = some v ∧ Q v s') E s) : wpAny (model prog w) A (inplaceOp op (.ref x) b) Q E s := by
  unfold inplaceOp
  refine wpAny_holding ?_
  refine wpAny_bind (I.type.here ?_)
  refine wpAny_bind (hno.here ?_)
  simp only [Bool.false_eq_true, if_false]
  refine wpAny_bind (wpAny_mono h (fun r s' z => ?_) fun _ _ e => e)
  obtain ⟨v, rfl, hq⟩ := z
  exact wpAny_pure hq
end

section
open PyProof.Rows
theorem dec_add (b : Int) (u : Tok) (l C dx : Addr) : Meets (Builtin.«int.__add__» ⟨[.int b u, .ref l], []⟩) (fun _ R s => s.heap.get? l = some (PySem.W.instObj C dx) ∧ R (.ok (.ret .notImplemented)) s) :=
  .of_wp fun prog w A R s h => by obtain ⟨hp, g, d, tk, os⟩ := s; obtain ⟨hl, h⟩ := h; wp_walk using wpAny_loadPart' hl, wpAny_load hl; exact ⟨_, rfl, h⟩
theorem dec_sub (b : Int) (u : Tok) (l C dx : Addr) : Meets (Builtin.«int.__sub__» ⟨[.int b u, .ref l], []⟩) (fun _ R s => s.heap.get? l = some (PySem.W.instObj C dx) ∧ R (.ok (.ret .notImplemented)) s) :=
  .of_wp fun prog w A R s h => by obtain ⟨hp, g, d, tk, os⟩ := s; obtain ⟨hl, h⟩ := h; wp_walk using wpAny_loadPart' hl, wpAny_load hl; exact ⟨_, rfl, h⟩
theorem dec_mul (b : Int) (u : Tok) (l C dx : Addr) : Meets (Builtin.«int.__mul__» ⟨[.int b u, .ref l], []⟩) (fun _ R s => s.heap.get? l = some (PySem.W.instObj C dx) ∧ R (.ok (.ret .notImplemented)) s) :=
  .of_wp fun prog w A R s h => by obtain ⟨hp, g, d, tk, os⟩ := s; obtain ⟨hl, h⟩ := h; wp_walk using wpAny_loadPart' hl, wpAny_load hl; exact ⟨_, rfl, h⟩
theorem dec_fdiv (b : Int) (u : Tok) (l C dx : Addr) : Meets (Builtin.«int.__floordiv__» ⟨[.int b u, .ref l], []⟩) (fun _ R s => s.heap.get? l = some (PySem.W.instObj C dx) ∧ R (.ok (.ret .notImplemented)) s) :=
  .of_wp fun prog w A R s h => by obtain ⟨hp, g, d, tk, os⟩ := s; obtain ⟨hl, h⟩ := h; wp_walk using wpAny_loadPart' hl, wpAny_load hl; exact ⟨_, rfl, h⟩
theorem dec_mod (b : Int) (u : Tok) (l C dx : Addr) : Meets (Builtin.«int.__mod__» ⟨[.int b u, .ref l], []⟩) (fun _ R s => s.heap.get? l = some (PySem.W.instObj C dx) ∧ R (.ok (.ret .notImplemented)) s) :=
  .of_wp fun prog w A R s h => by obtain ⟨hp, g, d, tk, os⟩ := s; obtain ⟨hl, h⟩ := h; wp_walk using wpAny_loadPart' hl, wpAny_load hl; exact ⟨_, rfl, h⟩
theorem no_add : IntNo .Add "int.__add__" := ⟨F.fills_int_add, F.slot_int_add, fun prog w A s i t x C dx R E hx q => call_meets F.slot_int_add (typeIs_int s i t) F.entry_int_add (F.args_int_add_2 _ _) (dec_add i t x C dx) ⟨hx, q⟩⟩
theorem no_sub : IntNo .Sub "int.__sub__" := ⟨F.fills_int_sub, F.slot_int_sub, fun prog w A s i t x C dx R E hx q => call_meets F.slot_int_sub (typeIs_int s i t) F.entry_int_sub (F.args_int_sub_2 _ _) (dec_sub i t x C dx) ⟨hx, q⟩⟩
theorem no_mul : IntNo .Mult "int.__mul__" := ⟨F.fills_int_mul, F.slot_int_mul, fun prog w A s i t x C dx R E hx q => call_meets F.slot_int_mul (typeIs_int s i t) F.entry_int_mul (F.args_int_mul_2 _ _) (dec_mul i t x C dx) ⟨hx, q⟩⟩
theorem no_fdiv : IntNo .FloorDiv "int.__floordiv__" := ⟨F.fills_int_floordiv, F.slot_int_floordiv, fun prog w A s i t x C dx R E hx q => call_meets F.slot_int_floordiv (typeIs_int s i t) F.entry_int_floordiv (F.args_int_floordiv_2 _ _) (dec_fdiv i t x C dx) ⟨hx, q⟩⟩
theorem no_mod : IntNo .Mod "int.__mod__" := ⟨F.fills_int_mod, F.slot_int_mod, fun prog w A s i t x C dx R E hx q => call_meets F.slot_int_mod (typeIs_int s i t) F.entry_int_mod (F.args_int_mod_2 _ _) (dec_mod i t x C dx) ⟨hx, q⟩⟩
end

section
variable {X : Cx} {CX : CXT} {n : Nat} {C f g : Addr} {fd : FuncData} {ps : List Str} {sp : Sp} {E : XK}
def IsIns (C : Addr) (H : Hp) (y : V) : Prop := ∃ a dx fs, y = .ref a ∧ H a = some (.ins C dx fs)
/-- x op y by the own def of x's class: y of the same class, or an int -/
def rOB (C : Addr) (sp : Sp) (E : XK) : R2 := fun x y H Q => IsIns C H x ∧ (IsIns C H y ∨ ∃ i, y = .int i) ∧ sp [x, y] H Q E
theorem op_OB {op : Operator} (O : OwnOp X.K C op f) (F : FnOk X.prog X.w X.K X.mg X.base CX n f fd ps sp) (hb : Binds X.K fd ps []) (hr : Room n X.A) (hx : Passes CX X E) : OpR X (binaryOp op) (rOB C sp E) := by
  intro pins s σ H x y v u Q I rx ry h
  obtain ⟨⟨a, dx, fs, rfl, ha⟩, hy, q⟩ := h
  cases (show v = Value.ref a from rx)
  obtain ⟨od, J⟩ := inst_of I ha
  obtain ⟨m, hF⟩ := I.fr
  have run : wpAny (model X.prog X.w) X.A (call (.ref f) [.ref a, u]) (PySem.W.CmpBack (fun w s' => EP X pins σ Q w s')) X.xe s := by
    refine wpAny_mono (run_fn (us := [.ref a, u]) (vs := [.ref a, y]) (dvs := []) (ds := []) F hr hb .nil hx I (.cons rfl (.cons ry .nil)) (by simpa using q)) (fun w s' z => ?_) fun _ _ x => x
    obtain ⟨z', H', I', rz, qz⟩ := z
    exact SlX.cmpback rz ⟨z', H', I', rz, qz⟩
  rcases hy with ⟨b, dy, gs, rfl, hb'⟩ | ⟨i, rfl⟩
  · cases (show u = Value.ref b from ry)
    obtain ⟨od', J'⟩ := inst_of I hb'
    exact PySem.W.binop_K hF I.ok.mod.kin J J'.type O.sf O.hs O.hf run
  · obtain ⟨t, e⟩ := (show ∃ t, u = Value.int i t from ry)
    cases e
    obtain ⟨rc, hrc, hp⟩ := O.hr
    obtain ⟨fo, h1⟩ := O.h1
    obtain ⟨ro, h2⟩ := O.h2
    exact PySem.W.ksp_binT hF I.ok.mod.kin J rfl O.sf O.hs O.hf hrc hp h1 h2 O.hsub run
/-- i op y, i an int, by the reflected def of y's class -/
def rOBR (C : Addr) (sp : Sp) (E : XK) : R2 := fun x y H Q => (∃ i, x = .int i) ∧ IsIns C H y ∧ sp [y, x] H Q E
theorem op_OBR {op : Operator} {idl : String} (N : IntNo op idl) (O : OwnOpR X.K C op f g) (F : FnOk X.prog X.w X.K X.mg X.base CX n g fd ps sp) (hb : Binds X.K fd ps []) (hr : Room n X.A) (hx : Passes CX X E) : OpR X (binaryOp op) (rOBR C sp E) := by
  intro pins s σ H x y v u Q I rx ry h
  obtain ⟨⟨i, rfl⟩, ⟨a, dx, fs, rfl, ha⟩, q⟩ := h
  cases (show u = Value.ref a from ry)
  obtain ⟨t, e⟩ := (show ∃ t, v = Value.int i t from rx)
  cases e
  obtain ⟨od, J⟩ := inst_of I ha
  refine binop_KR N O I.kIn J ?_
  refine wpAny_mono (run_fn (us := [.ref a, .int i t]) (vs := [.ref a, .int i]) (dvs := []) (ds := []) F hr hb .nil hx I (.cons rfl (.cons ⟨t, rfl⟩ .nil)) (by simpa using q)) (fun w s' z => ?_) fun _ _ x => x
  obtain ⟨z', H', I', rz, qz⟩ := z
  exact SlX.cmpback rz ⟨z', H', I', rz, qz⟩
/-- -x by an own __neg__ -/
def rON (C : Addr) (sp : Sp) (E : XK) : V → Hp → VK → Prop := fun x H Q => IsIns C H x ∧ sp [x] H Q E
theorem un_ON (hs : PySem.W.findIn X.K (.ref C) "__neg__" = some (some (.ref f))) (hf : PySem.W.isFn X.K (.ref f) = true) (F : FnOk X.prog X.w X.K X.mg X.base CX n f fd ps sp) (hb : Binds X.K fd ps []) (hr : Room n X.A) (hx : Passes CX X E) :
    UnR X (unaryOp .USub) (rON C sp E) := by
  intro pins s σ H x v Q I rx h
  obtain ⟨⟨a, dx, fs, rfl, ha⟩, q⟩ := h
  cases (show v = Value.ref a from rx)
  obtain ⟨od, J⟩ := inst_of I ha
  obtain ⟨m, hF⟩ := I.fr
  refine PySem.W.ksp_neg hF I.ok.mod.kin J hs hf ?_
  exact run_fn (us := [.ref a]) (vs := [.ref a]) (dvs := []) (ds := []) F hr hb .nil hx I (.cons rfl .nil) (by simpa using q)
/-- abs(x) by an own __abs__ -/
def rOA (C : Addr) (sp : Sp) (E : XK) : List V → Hp → VK → Prop := fun xs H Q => ∃ x, xs = [x] ∧ IsIns C H x ∧ sp [x] H Q E
theorem call_absOwn (hs : PySem.W.findIn X.K (.ref C) "__abs__" = some (some (.ref f))) (hf : PySem.W.isFn X.K (.ref f) = true) (F : FnOk X.prog X.w X.K X.mg X.base CX n f fd ps sp) (hb : Binds X.K fd ps []) (hr : Room (n + 1) X.A) (hx : Passes CX X E) :
    CallR X (.builtin "abs") (rOA C sp E) := by
  intro pins s σ H xs us Q I r h
  obtain ⟨x, rfl, ⟨a, dx, fs, rfl, ha⟩, q⟩ := h
  obtain ⟨u, rfl, ru⟩ := r.one
  cases (show u = Value.ref a from ru)
  obtain ⟨od, J⟩ := inst_of I ha
  refine Calls.call_function_entry kind_abs plain_abs entry_abs (args_abs _) ?_
  unfold Builtin.«abs»
  refine wpAny_bind (m := oneArg "abs" _) (wpAny_pure ?_)
  refine wpAny_bind (m := callSpecial? (.ref a) (Str.ofString "__abs__")) (PySem.W.special_fn I.kIn J hs (beq_iff_eq.mp hf) ?_)
  refine wpAny_mono (run_fnA (us := [.ref a]) (vs := [.ref a]) F hr.in1 rfl hb hx I (.cons rfl .nil) q) (fun w s' z => ?_) fun _ _ x => x
  exact wpAny_pure ⟨_, rfl, z⟩
end
end SF

/-! Fractions in lowest terms, as Lean's own rational numbers. -/
namespace SQ
open Rat
def gI (u l : Int) : Int := ((Nat.gcd u.natAbs l.natAbs : Nat) : Int)
def sg (u l : Int) : Int := if l < 0 then -gI u l else gI u l
def nt (u l : Int) : Int := u.fdiv (sg u l)
def nb (u l : Int) : Int := l.fdiv (sg u l)
theorem gI_pos {u l : Int} (h : l ≠ 0) : 0 < gI u l := by
  unfold gI
  have : 0 < Nat.gcd u.natAbs l.natAbs := Nat.gcd_pos_of_pos_right _ (Int.natAbs_pos.mpr h)
  omega
theorem sg_natAbs {u l : Int} : (sg u l).natAbs = Nat.gcd u.natAbs l.natAbs := by
  unfold sg gI
  split <;> omega
theorem sg_ne {u l : Int} (h : l ≠ 0) : sg u l ≠ 0 := by
  have e := sg_natAbs (u := u) (l := l)
  have h2 : 0 < Nat.gcd u.natAbs l.natAbs := Nat.gcd_pos_of_pos_right _ (Int.natAbs_pos.mpr h)
  omega
theorem sg_dvd {u l : Int} : sg u l ∣ u ∧ sg u l ∣ l := by
  have e := sg_natAbs (u := u) (l := l)
  constructor
  · apply Int.natAbs_dvd_natAbs.mp
    rw [e]
    exact Nat.gcd_dvd_left _ _
  · apply Int.natAbs_dvd_natAbs.mp
    rw [e]
    exact Nat.gcd_dvd_right _ _
theorem n_eqs {u l : Int} (h : l ≠ 0) : u = sg u l * nt u l ∧ l = sg u l * nb u l := by
  have hs := sg_ne (u := u) h
  obtain ⟨a, ha⟩ := (sg_dvd (u := u) (l := l)).1
  obtain ⟨c, hc⟩ := (sg_dvd (u := u) (l := l)).2
  have e1 : nt u l = a := by
    show Int.fdiv u (sg u l) = a
    have : Int.fdiv (sg u l * a) (sg u l) = a := Int.mul_fdiv_cancel_left _ hs
    rw [← ha] at this
    exact this
  have e2 : nb u l = c := by
    show Int.fdiv l (sg u l) = c
    have : Int.fdiv (sg u l * c) (sg u l) = c := Int.mul_fdiv_cancel_left _ hs
    rw [← hc] at this
    exact this
  rw [e1, e2]
  exact ⟨ha, hc⟩
theorem nb_pos {u l : Int} (h : l ≠ 0) : 0 < nb u l := by
  obtain ⟨h1, h2⟩ := n_eqs (u := u) h
  have hb : nb u l ≠ 0 := fun z => h (by rw [h2, z, Int.mul_zero])
  have hp := gI_pos (u := u) h
  by_cases hl : l < 0
  · have es : sg u l = -gI u l := if_pos hl
    by_cases hn : 0 < nb u l
    · exact hn
    · have : 0 ≤ sg u l * nb u l := by
        rw [es]
        exact Int.mul_nonneg_of_nonpos_of_nonpos (by omega) (by omega)
      omega
  · have es : sg u l = gI u l := if_neg hl
    by_cases hn : 0 < nb u l
    · exact hn
    · have : sg u l * nb u l ≤ 0 := by
        rw [es]
        exact Int.mul_nonpos_of_nonneg_of_nonpos (by omega) (by omega)
      omega
theorem n_cop {u l : Int} (h : l ≠ 0) : Nat.gcd (nt u l).natAbs (nb u l).natAbs = 1 := by
  obtain ⟨h1, h2⟩ := n_eqs (u := u) h
  have e := sg_natAbs (u := u) (l := l)
  have hg : 0 < Nat.gcd u.natAbs l.natAbs := Nat.gcd_pos_of_pos_right _ (Int.natAbs_pos.mpr h)
  have e1 : u.natAbs = Nat.gcd u.natAbs l.natAbs * (nt u l).natAbs := by
    rw [← e, ← Int.natAbs_mul, ← h1]
  have e2 : l.natAbs = Nat.gcd u.natAbs l.natAbs * (nb u l).natAbs := by
    rw [← e, ← Int.natAbs_mul, ← h2]
  have e3 : Nat.gcd u.natAbs l.natAbs = Nat.gcd u.natAbs l.natAbs * Nat.gcd (nt u l).natAbs (nb u l).natAbs := by
    rw [← Nat.gcd_mul_left, ← e1, ← e2]
  exact (Nat.eq_of_mul_eq_mul_left hg (by rw [Nat.mul_one]; exact e3)).symm
/-- what the program makes of u over l is the fraction's top and bottom -/
theorem n_rat {u l : Int} (h : l ≠ 0) : nt u l = (u /. l).num ∧ nb u l = ((u /. l).den : Int) := by
  have hp := nb_pos (u := u) h
  have hc := n_cop (u := u) h
  obtain ⟨h1, h2⟩ := n_eqs (u := u) h
  have hd : (nb u l).natAbs ≠ 0 := by omega
  have eq : u /. l = (⟨nt u l, (nb u l).natAbs, hd, hc⟩ : Rat) := by
    rw [Rat.mk_eq_divInt, Rat.divInt_eq_divInt_iff h (by omega), Int.natAbs_of_nonneg (by omega)]
    have : u * nb u l = (sg u l * nt u l) * nb u l := by rw [← h1]
    rw [this]
    have h3 : nt u l * l = nt u l * (sg u l * nb u l) := by rw [← h2]
    rw [h3]
    simp [Int.mul_comm, Int.mul_left_comm]
  rw [eq]
  refine ⟨rfl, ?_⟩
  show nb u l = (((nb u l).natAbs : Nat) : Int)
  rw [Int.natAbs_of_nonneg (by omega)]
theorem nt_rat {u l : Int} (h : l ≠ 0) : nt u l = (u /. l).num := (n_rat h).1
theorem nb_rat {u l : Int} (h : l ≠ 0) : nb u l = ((u /. l).den : Int) := (n_rat h).2
theorem n_le {u l : Int} (h : l ≠ 0) : (u /. l).num.natAbs ≤ u.natAbs ∧ (u /. l).den ≤ l.natAbs := by
  obtain ⟨h1, h2⟩ := n_eqs (u := u) h
  have hs : 0 < (sg u l).natAbs := Int.natAbs_pos.mpr (sg_ne h)
  obtain ⟨r1, r2⟩ := n_rat (u := u) h
  constructor
  · have e := congrArg Int.natAbs h1
    rw [Int.natAbs_mul, r1] at e
    rw [e]
    exact Nat.le_mul_of_pos_left _ hs
  · have e := congrArg Int.natAbs h2
    rw [Int.natAbs_mul, r2] at e
    rw [e]
    show _ ≤ _ * (u /. l).den
    exact Nat.le_mul_of_pos_left _ hs

/-- top and bottom have at most n binary digits -/
def Sz (n : Nat) (q : Rat) : Prop := q.num.natAbs < 2 ^ n ∧ q.den < 2 ^ n
theorem two_le {a b : Nat} (h : a ≤ b) : 2 ^ a ≤ 2 ^ b := Nat.pow_le_pow_right (by decide) h
theorem Sz.mono {n m : Nat} {q : Rat} (s : Sz n q) (h : n ≤ m) : Sz m q := ⟨Nat.lt_of_lt_of_le s.1 (two_le h), Nat.lt_of_lt_of_le s.2 (two_le h)⟩
theorem Sz.of {n : Nat} {u l : Int} (h : l ≠ 0) (hu : u.natAbs < 2 ^ n) (hl : l.natAbs < 2 ^ n) : Sz n (u /. l) :=
  let ⟨a, b⟩ := n_le (u := u) h
  ⟨Nat.lt_of_le_of_lt a hu, Nat.lt_of_le_of_lt b hl⟩
theorem mul_lt {a b n m : Nat} (ha : a < 2 ^ n) (hb : b < 2 ^ m) : a * b < 2 ^ (n + m) := by
  rw [Nat.pow_add]
  exact Nat.mul_lt_mul'' ha hb
theorem Sz.pos {n : Nat} {q : Rat} (s : Sz n q) : 0 < n := by
  cases n with
  | zero => have h := s.2; have := Nat.pos_of_ne_zero q.den_nz; omega
  | succ k => omega
theorem denZ (q : Rat) : (q.den : Int) ≠ 0 := by have := q.den_nz; omega
theorem denP (q : Rat) : (0 : Int) < q.den := by have := q.den_nz; omega
/-- the sum as the program writes it -/
theorem add_is (q r : Rat) : (q.num * r.den + r.num * q.den) /. (q.den * r.den) = q + r := by
  rw [← Rat.divInt_add_divInt _ _ (denZ q) (denZ r), Rat.num_divInt_den, Rat.num_divInt_den]
theorem mul_is (q r : Rat) : (q.num * r.num) /. (q.den * r.den) = q * r := by
  rw [← Rat.divInt_mul_divInt, Rat.num_divInt_den, Rat.num_divInt_den]
theorem inv_is (q : Rat) : (q.den : Int) /. q.num = q⁻¹ := (Rat.inv_def q).symm
theorem neg_is (q : Rat) : (-q.num) /. (q.den : Int) = -q := by
  rw [← Rat.neg_divInt, Rat.num_divInt_den]
theorem abs_is (q : Rat) : ((if q.num < 0 then -q.num else q.num) /. (q.den : Int)) = q.abs := by
  unfold Rat.abs
  by_cases h : q.num < 0
  · have : ¬ (0 ≤ q) := fun z => by have := Rat.num_nonneg.mpr z; omega
    rw [if_pos h, if_neg this, neg_is]
  · have : 0 ≤ q := Rat.num_nonneg.mp (by omega)
    rw [if_neg h, if_pos this, Rat.num_divInt_den]
theorem int_is (i : Int) : i /. 1 = (i : Rat) := by
  have := Rat.num_divInt_den (i : Rat)
  simpa using this
theorem floor_is (q : Rat) : q.num.fdiv q.den = q.floor := by
  rw [Rat.floor_def, Int.fdiv_eq_ediv_of_nonneg _ (by have := denP q; omega)]
theorem pow_is (q : Rat) (n : Nat) : (q.num ^ n) /. ((q.den : Int) ^ n) = q ^ n := by
  have := Rat.num_divInt_den (q ^ n)
  rw [Rat.num_pow, Rat.den_pow] at this
  rw [← this]
  congr 1
theorem den_ne (q r : Rat) : (q.den : Int) * r.den ≠ 0 := Int.mul_ne_zero (denZ q) (denZ r)
theorem num_ne {q : Rat} (h : q ≠ 0) : q.num ≠ 0 := fun z => h (Rat.num_eq_zero.mp z)
theorem natAbs_den (q : Rat) : ((q.den : Int)).natAbs = q.den := rfl

theorem sum_bd {n m : Nat} {q r : Rat} (s : Sz n q) (t : Sz m r) : (q.num * r.den + r.num * q.den).natAbs < 2 ^ (n + m + 1) ∧ ((q.den : Int) * r.den).natAbs < 2 ^ (n + m + 1) := by
  have a := mul_lt s.1 t.2
  have b := mul_lt t.1 s.2
  have c := mul_lt s.2 t.2
  rw [Nat.add_comm m n] at b
  have e : 2 ^ (n + m + 1) = 2 ^ (n + m) + 2 ^ (n + m) := by rw [Nat.pow_succ]; omega
  constructor
  · have := Int.natAbs_add_le (q.num * r.den) (r.num * q.den)
    rw [Int.natAbs_mul, Int.natAbs_mul, natAbs_den, natAbs_den] at this
    omega
  · rw [Int.natAbs_mul, natAbs_den, natAbs_den]; omega
theorem Sz.add {n m : Nat} {q r : Rat} (s : Sz n q) (t : Sz m r) : Sz (n + m + 1) (q + r) := by
  rw [← add_is]
  exact Sz.of (den_ne q r) (sum_bd s t).1 (sum_bd s t).2
theorem prod_bd {n m : Nat} {q r : Rat} (s : Sz n q) (t : Sz m r) : (q.num * r.num).natAbs < 2 ^ (n + m) ∧ ((q.den : Int) * r.den).natAbs < 2 ^ (n + m) := by
  rw [Int.natAbs_mul, Int.natAbs_mul]
  exact ⟨mul_lt s.1 t.1, mul_lt s.2 t.2⟩
theorem Sz.mul {n m : Nat} {q r : Rat} (s : Sz n q) (t : Sz m r) : Sz (n + m) (q * r) := by
  rw [← mul_is]
  exact Sz.of (den_ne q r) (prod_bd s t).1 (prod_bd s t).2
theorem Sz.neg {n : Nat} {q : Rat} (s : Sz n q) : Sz n (-q) := ⟨by rw [Rat.neg_num, Int.natAbs_neg]; exact s.1, s.2⟩
theorem Sz.abs {n : Nat} {q : Rat} (s : Sz n q) : Sz n q.abs := by
  unfold Rat.abs
  split
  · exact s
  · exact s.neg
theorem Sz.inv {n : Nat} {q : Rat} (s : Sz n q) (h : q ≠ 0) : Sz n q⁻¹ := by
  rw [← inv_is]
  exact Sz.of (num_ne h) s.2 s.1
theorem Sz.int {n : Nat} {i : Int} (h : i.natAbs < 2 ^ n) (h0 : 0 < n) : Sz n (i : Rat) := ⟨h, by show 1 < 2 ^ n; exact Nat.one_lt_two_pow (by omega)⟩
theorem floor_le_num {q : Rat} : q.floor.natAbs ≤ q.num.natAbs := by
  rw [Rat.floor_def]
  have hp := denP q
  have h1 := Int.mul_ediv_add_emod q.num q.den
  have h2 := Int.emod_nonneg q.num (denZ q)
  have h3 := Int.emod_lt_of_pos q.num hp
  rcases Int.le_total 0 q.num with h | h
  · have a := Int.ediv_nonneg h (Int.le_of_lt hp)
    have b : q.num / q.den ≤ q.num := Int.ediv_le_self _ h
    omega
  · have a : q.num ≤ q.num / q.den := by
      rw [Int.le_ediv_iff_mul_le hp]
      have : q.num * (q.den : Int) ≤ q.num * 1 := Int.mul_le_mul_of_nonpos_left h (by omega)
      omega
    have b : q.num / q.den ≤ 0 := by
      have := Int.ediv_le_ediv hp h
      rwa [Int.zero_ediv] at this
    omega
theorem Sz.floor {n : Nat} {q : Rat} (s : Sz n q) : Sz n (q.floor : Rat) := Sz.int (Nat.lt_of_le_of_lt floor_le_num s.1) s.pos
theorem Sz.pow {n : Nat} {q : Rat} (s : Sz n q) (k : Nat) : Sz (n * k + 1) (q ^ k) := by
  constructor
  · rw [Rat.num_pow, Int.natAbs_pow]
    refine Nat.lt_of_le_of_lt (Nat.pow_le_pow_left (Nat.le_of_lt s.1) k) ?_
    rw [← Nat.pow_mul]
    exact Nat.pow_lt_pow_right (by decide) (by omega)
  · rw [Rat.den_pow]
    refine Nat.lt_of_le_of_lt (Nat.pow_le_pow_left (Nat.le_of_lt s.2) k) ?_
    rw [← Nat.pow_mul]
    exact Nat.pow_lt_pow_right (by decide) (by omega)
theorem Sz.lt {n : Nat} {i : Int} (s : Sz n (i : Rat)) : i.natAbs < 2 ^ n := s.1
/-- two fractions are equal if top and bottom are -/
theorem eq_bools (q r : Rat) : (decide (q.num = r.num) && decide ((q.den : Int) = r.den)) = decide (q = r) := by
  by_cases h : q = r
  · subst h; simp
  · have : ¬ (q.num = r.num ∧ (q.den : Int) = r.den) := fun ⟨a, b⟩ => h (Rat.ext a (by omega))
    rw [decide_eq_false h]
    by_cases a : q.num = r.num
    · have b : ¬ (q.den : Int) = r.den := fun b => this ⟨a, b⟩
      rw [decide_eq_false b, Bool.and_false]
    · rw [decide_eq_false a, Bool.false_and]
theorem eq_int (q : Rat) (i : Int) : (decide ((q.den : Int) = 1) && decide (q.num = i)) = decide (q = (i : Rat)) := by
  have := eq_bools q (i : Rat)
  rw [Rat.num_intCast, Rat.den_intCast] at this
  rw [← this, Bool.and_comm]
  rfl
theorem ne_zero (q : Rat) : (q.num != 0) = decide (q ≠ 0) := by
  by_cases h : q = 0
  · subst h; simp
  · have := num_ne h
    simp [h, this]
end SQ

/-! The class of fractions: what its defs promise; expressions of fractions as rational numbers. -/
namespace SQ
open PySem PySem.Spec PyProof.Rows L2 SF
def kinds : List String := ["int", "bool", "str", "NoneType", "list", "tuple", "dict"]
/-- what stands in the text for the class Ratio at C -/
structure RC (K : PySem.W.Frag) (mg : Str → Option Value) (C : Addr) : Prop where
  cl : Cls K C
  nT : NoAttr K C "_top"
  nB : NoAttr K C "_bottom"
  mgC : mg "Ratio" = some (.ref C)
  isi : mg "isinstance" = none
  int_ : mg "int" = none
  bool_ : mg "bool" = none
  str_ : mg "str" = none
  abs_ : mg "abs" = none
  range_ : mg "range" = none
  repr_ : mg "repr" = none
  gcd : mg "gcd" = some (.builtin "math.gcd")
  kB : ∀ T ∈ kinds, PySem.W.kitOne K (.type T) (.ref C) = some false
  kC : PySem.W.kitOne K (.ref C) (.ref C) = some true
  ca : PySem.W.findIn K (.ref C) "__class__" = some (some (.builtin "object.__class__"))
  cn : PySem.W.specialIn K (.builtin "object.__class__") "__get__" = some (some (.builtin "getset_descriptor.__get__"))
  ct : PySem.W.takesIn K (.builtin "object.__class__") = some true
  cm : PySem.W.mroIn K C (.type "object") = some true
/-- the fields of a fraction -/
def rf (t b : Int) : List (Str × V) := putF "_bottom" (.int b) (putF "_top" (.int t) [])
theorem n_bt : ¬ (("_bottom" : Str) = "_top") := by decide +kernel
theorem n_tb : ¬ (("_top" : Str) = "_bottom") := by decide +kernel
theorem rf_top (t b : Int) : (rf t b).lookup ("_top" : Str) = some (.int t) := by
  unfold rf
  rw [lookup_putF, if_neg n_tb, lookup_putF, if_pos rfl]
theorem rf_bot (t b : Int) : (rf t b).lookup ("_bottom" : Str) = some (.int b) := by
  unfold rf
  rw [lookup_putF, if_pos rfl]
theorem rf_no {m : Str} (t b : Int) (h1 : ¬ (m = "_top")) (h2 : ¬ (m = "_bottom")) : (rf t b).lookup m = none := by
  unfold rf
  rw [lookup_putF, if_neg h2, lookup_putF, if_neg h1]
  rfl
/-- the fraction t / b stands at a -/
def RatH (C : Addr) (H : Hp) (a : Addr) (t b : Int) : Prop := ∃ dx, H a = some (.ins C dx (rf t b))
/-- the fraction q of at most n binary digits stands at a -/
def RQ (C : Addr) (H : Hp) (a : Addr) (n : Nat) (q : Rat) : Prop := RatH C H a q.num q.den ∧ Sz n q
/-- v is a fraction (k) or an int, equal to q -/
def NV (C : Addr) (H : Hp) (k : Bool) (v : V) (n : Nat) (q : Rat) : Prop := match k with
  | true => ∃ a, v = .ref a ∧ RQ C H a n q
  | false => ∃ i : Int, v = .int i ∧ q = (i : Rat) ∧ i.natAbs < 2 ^ n ∧ 0 < n
def LIM : Nat := 8900
section
variable {C : Addr} {H H' : Hp} {a p : Addr} {n m : Nat} {q r : Rat} {k : Bool} {v : V} {t b : Int}
theorem RatH.same (r : RatH C H a t b) (s : Same H H') : RatH C H' a t b := let ⟨dx, e⟩ := r; ⟨dx, s _ _ e⟩
theorem RQ.same (x : RQ C H a n q) (s : Same H H') : RQ C H' a n q := ⟨x.1.same s, x.2⟩
theorem RQ.mono (x : RQ C H a n q) (h : n ≤ m) : RQ C H a m q := ⟨x.1, x.2.mono h⟩
theorem NV.same (x : NV C H k v n q) (s : Same H H') : NV C H' k v n q := by
  cases k with
  | true => obtain ⟨a, e, y⟩ := x; exact ⟨a, e, y.same s⟩
  | false => exact x
theorem NV.sz (x : NV C H k v n q) : Sz n q := by
  cases k with
  | true => obtain ⟨a, e, y⟩ := x; exact y.2
  | false => obtain ⟨i, _, rfl, h, h0⟩ := x; exact Sz.int h h0
theorem RQ.nv (x : RQ C H a n q) : NV C H true (.ref a) n q := ⟨a, rfl, x⟩
theorem nvI {i : Int} (h : i.natAbs < 2 ^ n) (h0 : 0 < n) : NV C H false (.int i) n (i : Rat) := ⟨i, rfl, rfl, h, h0⟩
theorem RQ.ins (x : RQ C H a n q) : IsIns C H (.ref a) := let ⟨⟨dx, e⟩, _⟩ := x; ⟨a, dx, _, rfl, e⟩
theorem NV.kind (x : NV C H k v n q) : IsIns C H v ∨ ∃ i, v = .int i := by
  cases k with
  | true => obtain ⟨a, rfl, y⟩ := x; exact .inl y.ins
  | false => obtain ⟨i, rfl, _⟩ := x; exact .inr ⟨i, rfl⟩
theorem same_new {o : HO} (s : Same H H') (h : H' p = none) : Same H (upd H' p o) := fun c u e => by
  rw [upd_ne (ne_of_none (s _ _ e) h)]
  exact s _ _ e
theorem keep {o u : HO} (e : H a = some o) (n : H p = none) : upd H p u a = some o := by rw [upd_ne (ne_of_none e n)]; exact e
theorem upd_got {o : HO} (h : upd H p o = H') : H' p = some o := by rw [← h]; exact upd_same
theorem upd_stay {o : HO} (h : upd H p o = H') (n : H p = none) : Same H H' := by rw [← h]; exact same_new (Same.refl _) n
end
/-! ### what the defs promise -/
def spInit (C : Addr) : Sp := fun vs H Q _ => ∃ (p dx : Addr) (t b : Int), vs = [.ref p, .int t, .int b] ∧ b ≠ 0 ∧ b.natAbs < 2 ^ LIM ∧ H p = some (.ins C dx []) ∧ Q .non (upd H p (.ins C dx (rf (nt t b) (nb t b))))
section
variable {C : Addr} {H H' : Hp} {t b : Int} {W : VK}
theorem mk_fin {x dx : Addr} {n : Nat} (hx : H x = none) (hd : H dx = none) (hn : dx ≠ x) (h0 : b ≠ 0) (ht : t.natAbs < 2 ^ n) (hb : b.natAbs < 2 ^ n) (hl : n ≤ LIM) (q : ∀ H2, Same H H2 → RQ C H2 x n (Rat.divInt t b) → W .non H2) :
    spInit C [.ref x, .int t, .int b] (upd (upd H dx (.own x)) x (.ins C dx [])) W E0 := by
  refine ⟨x, dx, t, b, rfl, h0, Nat.lt_of_lt_of_le hb (two_le hl), upd_same, ?_⟩
  rw [upd_upd]
  refine q _ ?_ ⟨⟨dx, ?_⟩, Sz.of h0 ht hb⟩
  · refine same_new (same_new (Same.refl H) hd) ?_
    rw [upd_ne (Ne.symm hn)]
    exact hx
  · rw [← nt_rat h0, ← nb_rat h0]
    exact upd_same
end
def isI : V → Bool
  | .int _ => true
  | _ => false
def spIsW (C : Addr) : Sp := fun vs H Q _ => ∃ v, vs = [v] ∧ ((∃ T, Dec H v T ∧ Q (.bl (isI v)) H) ∨ (IsIns C H v ∧ Q (.bl false) H))
def spIsN (C : Addr) : Sp := fun vs H Q _ => ∃ v, vs = [v] ∧ ((∃ T, Dec H v T ∧ Q (.bl (isI v)) H) ∨ (IsIns C H v ∧ Q (.bl true) H))
def spAs (C : Addr) : Sp := fun vs H Q _ => ∃ v k n q, vs = [v] ∧ NV C H k v n q ∧ n ≤ LIM ∧ ∀ a H', Same H H' → RQ C H' a n q → Q (.ref a) H'
/-- of two fractions -/
def sp2 (C : Addr) (side : Rat → Rat → Prop) (f : Rat → Rat → Rat) (g : Nat → Nat → Nat) : Sp := fun vs H Q _ => ∃ a b n m q r, vs = [.ref a, .ref b] ∧ RQ C H a n q ∧ RQ C H b m r ∧ side q r ∧ g n m ≤ LIM ∧ ∀ p H', Same H H' → RQ C H' p (g n m) (f q r) → Q (.ref p) H'
/-- of a fraction and a number -/
def spM (C : Addr) (side : Rat → Rat → Prop) (f : Rat → Rat → Rat) (g : Nat → Nat → Nat) : Sp := fun vs H Q _ => ∃ a k v n m q r, vs = [.ref a, v] ∧ RQ C H a n q ∧ NV C H k v m r ∧ side q r ∧ g n m ≤ LIM ∧ ∀ p H', Same H H' → RQ C H' p (g n m) (f q r) → Q (.ref p) H'
def sp1 (C : Addr) (side : Rat → Prop) (f : Rat → Rat) : Sp := fun vs H Q _ => ∃ a n q, vs = [.ref a] ∧ RQ C H a n q ∧ side q ∧ n ≤ LIM ∧ ∀ p H', Same H H' → RQ C H' p n (f q) → Q (.ref p) H'
def yes1 : Rat → Prop := fun _ => True
def yes2 : Rat → Rat → Prop := fun _ _ => True
def nz1 : Rat → Prop := fun q => q ≠ 0
def nz2 : Rat → Rat → Prop := fun _ r => r ≠ 0
def gA (n m : Nat) : Nat := n + m + 1
def gM (n m : Nat) : Nat := n + m
def gR (n m : Nat) : Nat := n + (m + (n + m)) + 1
def fFl (q r : Rat) : Rat := ((q / r).floor : Rat)
def fRem (q r : Rat) : Rat := q - r * ((q / r).floor : Rat)
def fSubR (q r : Rat) : Rat := r - q
def fFlR (q r : Rat) : Rat := fFl r q
def fRemR (q r : Rat) : Rat := fRem r q
def spPow (C : Addr) : Sp := fun vs H Q _ => ∃ a n q e, vs = [.ref a, .int e] ∧ RQ C H a n q ∧ -20 ≤ e ∧ e ≤ 20 ∧ (q ≠ 0 ∨ 0 ≤ e) ∧ n * e.natAbs + 1 ≤ LIM ∧ n ≤ LIM ∧ ∀ p H', Same H H' → RQ C H' p (n * e.natAbs + 1) (q ^ e) → Q (.ref p) H'
def spWPow : Sp := fun vs H Q _ => ∃ (b : Int) (t n : Nat), vs = [.int b, .int (t : Int)] ∧ t ≤ 20 ∧ b.natAbs < 2 ^ n ∧ n ≤ LIM ∧ 0 < n ∧ Q (.int (b ^ t)) H
def spBool (C : Addr) : Sp := fun vs H Q _ => ∃ a n q, vs = [.ref a] ∧ RQ C H a n q ∧ Q (.bl (decide (q ≠ 0))) H
/-- is the fraction q equal to a thing of a built-in kind? -/
def eqO (y : V) (q : Rat) : Bool := match y with
  | .int i => decide (q = (i : Rat))
  | _ => false
def spEq (C : Addr) : Sp := fun vs H Q _ => ∃ a n q y, vs = [.ref a, y] ∧ RQ C H a n q ∧ ((∃ k m r, NV C H k y m r ∧ Q (.bl (decide (q = r))) H) ∨ ∃ T, Dec H y T ∧ Q (.bl (eqO y q)) H)
/-- a number's text -/
abbrev tx (i : Int) : Str := Str.ofString (toString i)
def rstr (q : Rat) : Str := if q.den = 1 then tx q.num else ((Str.empty ++ tx q.num) ++ ("/" : Str)) ++ tx q.den
def rrepr (q : Rat) : Str := ((((Str.empty ++ ("Ratio(" : Str)) ++ tx q.num) ++ (", " : Str)) ++ tx q.den) ++ (")" : Str)
def spStr (C : Addr) : Sp := fun vs H Q _ => ∃ a n q, vs = [.ref a] ∧ RQ C H a n q ∧ n ≤ 1900 ∧ Q (.str (rstr q)) H
def spRepr (C : Addr) : Sp := fun vs H Q _ => ∃ a n q, vs = [.ref a] ∧ RQ C H a n q ∧ n ≤ 1900 ∧ Q (.str (rrepr q)) H
/-- the text of a fraction, and of nothing else -/
def spRead (C : Addr) : Sp := fun vs H Q _ => ∃ n q, vs = [.ref C, .str (rstr q)] ∧ Sz n q ∧ n ≤ 1900 ∧ ∀ p H', Same H H' → RQ C H' p n q → Q (.ref p) H'

theorem lg {i : Int} {n : Nat} (h : i.natAbs < 2 ^ n) (hn : n ≤ LIM) : i.natAbs.log2 < 9000 :=
  Nat.lt_of_lt_of_le (PySem.Flt.log2_lt_of (k := LIM) (by decide) (Nat.lt_of_lt_of_le h (two_le hn))) (by decide)
theorem wm {i j : Int} {n m : Nat} (hi : i.natAbs < 2 ^ n) (hj : j.natAbs < 2 ^ m) (h : n + m ≤ 30 * LIM) : CMulW i j :=
  wide_mul (a := n + 1) (b := m + 1) (Nat.lt_of_lt_of_le hi (two_le (by omega))) (Nat.lt_of_lt_of_le hj (two_le (by omega))) (by omega) (by omega) (by unfold LIM at h; omega)
theorem sg_ok {u l : Int} (h : l ≠ 0) (hb : l.natAbs < 2 ^ LIM) : CDivZ u (sg u l) := by
  have e := sg_natAbs (u := u) (l := l)
  have h1 := Nat.gcd_le_right u.natAbs (Int.natAbs_pos.mpr h)
  have h2 : 0 < Nat.gcd u.natAbs l.natAbs := Nat.gcd_pos_of_pos_right _ (Int.natAbs_pos.mpr h)
  exact ⟨by omega, lg (n := LIM) (by omega) (Nat.le_refl _)⟩

/-! ### expressions of fractions -/
def GS (G : L2.St → Hp → Prop) : Prop := ∀ σ H H', G σ H → Same H H' → G σ H'
/-- e is a fraction (k) or an int, equal to q, of n binary digits, if s -/
def TQ (C : Addr) (G : L2.St → Hp → Prop) (k : Bool) (n : Nat) (q : Rat) (s : Prop) : TE := fun σ H Q => G σ H ∧ s ∧ ∀ v H', Same H H' → NV C H' k v n q → Q v H'
/-- e is the truth value b -/
def TB (G : L2.St → Hp → Prop) (b : Bool) (s : Prop) : TE := fun σ H Q => G σ H ∧ s ∧ ∀ H', Same H H' → Q (.bl b) H'
def TBt (G : L2.St → Hp → Prop) (b : Bool) (s : Prop) : TT := fun σ H Q => G σ H ∧ s ∧ ∀ H', Same H H' → Q b H'
def TS (G : L2.St → Hp → Prop) (x : Str) (s : Prop) : TE := fun σ H Q => G σ H ∧ s ∧ ∀ H', Same H H' → Q (.str x) H'
def TI (G : L2.St → Hp → Prop) (i : Int) (s : Prop) : TE := fun σ H Q => G σ H ∧ s ∧ ∀ H', Same H H' → Q (.int i) H'
section
variable {X : Cx} {C : Addr} {G : L2.St → Hp → Prop} {a b e : Expr} {k k1 k2 : Bool} {n m : Nat} {q r : Rat} {s s1 s2 : Prop} {pos p1 p2 : Pos}
theorem pe_weak {t t' : TE} (h : PE X e t) (i : ∀ σ H Q, t' σ H Q → t σ H Q) : PE X e t' := ⟨fun pins st σ H Q I x => h.run pins st σ H Q I (i _ _ _ x)⟩
theorem pt_weak {t t' : TT} (h : PT X e t) (i : ∀ σ H Q, t' σ H Q → t σ H Q) : PT X e t' := ⟨fun pins st σ H Q I x => h.run pins st σ H Q I (i _ _ _ x)⟩
theorem pw_weak {t t' : TT} (h : PW X e t) (i : ∀ σ H Q, t' σ H Q → t σ H Q) : PW X e t' := ⟨fun wh pins st σ H Q I x => h.run wh pins st σ H Q I (i _ _ _ x)⟩
theorem pq_var {i : Nat} (h : PE X e (tVar i)) (g : ∀ σ H, G σ H → ∃ v, σ[i]? = some (some v) ∧ NV C H k v n q) : PE X e (TQ C G k n q True) :=
  pe_weak h fun σ H Q ⟨hg, _, z⟩ => let ⟨v, hv, nv⟩ := g σ H hg; ⟨v, hv, z v H (Same.refl _) nv⟩
theorem pq_int {i j pos} (h : i.natAbs < 2 ^ n) (h0 : 0 < n) : PE X (.Constant (.int i) j pos) (TQ C G false n (i : Rat) True) :=
  pe_weak pe_int fun σ H Q ⟨hg, _, z⟩ => z _ H (Same.refl _) (nvI h h0)
/-- an operator's rule in the words of rational numbers -/
def rQ (C : Addr) (k1 k2 : Bool) (side : Rat → Rat → Prop) (f : Rat → Rat → Rat) (g : Nat → Nat → Nat) : R2 := fun x y H Q => ∃ n m q r, NV C H k1 x n q ∧ NV C H k2 y m r ∧ side q r ∧ g n m ≤ LIM ∧ ∀ p H', Same H H' → RQ C H' p (g n m) (f q r) → Q (.ref p) H'
theorem pq_op {op : Operator} {side : Rat → Rat → Prop} {f : Rat → Rat → Rat} {g : Nat → Nat → Nat} (ho : OpR X (binaryOp op) (rQ C k1 k2 side f g)) (hG : GS G) (ha : PE X a (TQ C G k1 n q s1)) (hb : PE X b (TQ C G k2 m r s2)) :
    PE X (.BinOp a op b pos) (TQ C G true (g n m) (f q r) (s1 ∧ s2 ∧ side q r ∧ g n m ≤ LIM)) :=
  pe_weak (pe_op ho ha hb) fun σ H Q ⟨hg, ⟨h1, h2, h3, h4⟩, z⟩ =>
    ⟨hg, h1, fun v H1 S1 nv => ⟨hG _ _ _ hg S1, h2, fun u H2 S2 nu => ⟨n, m, q, r, nv.same S2, nu, h3, h4, fun p H3 S3 rq => z _ H3 ((S1.trans S2).trans S3) rq.nv⟩⟩⟩
def rQ1 (C : Addr) (side : Rat → Prop) (f : Rat → Rat) : V → Hp → VK → Prop := fun x H Q => ∃ n q, NV C H true x n q ∧ side q ∧ n ≤ LIM ∧ ∀ p H', Same H H' → RQ C H' p n (f q) → Q (.ref p) H'
theorem pq_un {op : UnaryOp} {side : Rat → Prop} {f : Rat → Rat} (ho : UnR X (unaryOp op) (rQ1 C side f)) (ha : PE X a (TQ C G true n q s1)) : PE X (.UnaryOp op a pos) (TQ C G true n (f q) (s1 ∧ side q ∧ n ≤ LIM)) :=
  pe_weak (pe_un ho ha) fun σ H Q ⟨hg, ⟨h1, h2, h3⟩, z⟩ => ⟨hg, h1, fun v H1 S1 nv => ⟨n, q, nv, h2, h3, fun p H2 S2 rq => z _ H2 (S1.trans S2) rq.nv⟩⟩
/-- f(a), a built-in of one fraction -/
def rQc (C : Addr) (side : Rat → Prop) (f : Rat → Rat) : List V → Hp → VK → Prop := fun xs H Q => ∃ x, xs = [x] ∧ rQ1 C side f x H Q

/-! #### comparisons -/
def rQe (C : Addr) (k2 : Bool) (f : Rat → Rat → Bool) : R2 := fun x y H Q => ∃ n m q r, NV C H true x n q ∧ NV C H k2 y m r ∧ Q (.bl (f q r)) H
theorem pq_cmp {op : CmpOp} {f : Rat → Rat → Bool} (ho : OpR X (compareOp op) (rQe C k2 f)) (hG : GS G) (hm : behindInMarks op b = false) (ha : PE X a (TQ C G true n q s1)) (hb : PE X b (TQ C G k2 m r s2)) :
    PE X (.Compare a [op] [b] pos) (TB G (f q r) (s1 ∧ s2)) :=
  pe_weak (pe_cmpR ho ha hb hm) fun σ H Q ⟨hg, ⟨h1, h2⟩, z⟩ =>
    ⟨hg, h1, fun v H1 S1 nv => ⟨hG _ _ _ hg S1, h2, fun u H2 S2 nu => ⟨n, m, q, r, nv.same S2, nu, z H2 (S1.trans S2)⟩⟩⟩
theorem pb_test {bb : Bool} (h : PE X e (TB G bb s)) (he : ∀ whole, isTrue e X.env whole = (do let v ← whole; standAt e.pos; holding [v] (truthy v)) := by intro _; rfl) : PT X e (TBt G bb s) :=
  pt_weak (pt_val h he) fun σ H Q ⟨hg, h1, z⟩ => ⟨hg, h1, fun H' S => ⟨bb, rfl, z H' S⟩⟩
theorem pb_or1 {bb : Bool} (ha : PT X a (TBt G bb s)) : PW X (.BoolOp .Or [a] pos) (TBt G bb s) := pw_or1 ha
theorem pb_or {rest : List Expr} {b1 b2 : Bool} (hG : GS G) (ha : PT X a (TBt G b1 s1)) (hb : PW X (.BoolOp .Or (b :: rest) pos) (TBt G b2 s2)) : PW X (.BoolOp .Or (a :: b :: rest) pos) (TBt G (b1 || b2) (s1 ∧ (b1 = false → s2))) :=
  pw_weak (pw_or ha hb) fun σ H Q ⟨hg, ⟨h1, h2⟩, z⟩ => ⟨hg, h1, fun H1 S1 => by
    cases b1 with
    | true => exact iteT (by simpa using z H1 S1)
    | false => exact iteF ⟨hG _ _ _ hg S1, h2 rfl, fun H2 S2 => by simpa using z H2 (S1.trans S2)⟩⟩
theorem pb_and1 {bb : Bool} (ha : PT X a (TBt G bb s)) : PW X (.BoolOp .And [a] pos) (TBt G bb s) := pw_and1 ha
theorem pb_and {rest : List Expr} {b1 b2 : Bool} (hG : GS G) (ha : PT X a (TBt G b1 s1)) (hb : PW X (.BoolOp .And (b :: rest) pos) (TBt G b2 s2)) : PW X (.BoolOp .And (a :: b :: rest) pos) (TBt G (b1 && b2) (s1 ∧ (b1 = true → s2))) :=
  pw_weak (pw_and ha hb) fun σ H Q ⟨hg, ⟨h1, h2⟩, z⟩ => ⟨hg, h1, fun H1 S1 => by
    cases b1 with
    | false => exact iteF (by simpa using z H1 S1)
    | true => exact iteT ⟨hG _ _ _ hg S1, h2 rfl, fun H2 S2 => by simpa using z H2 (S1.trans S2)⟩⟩
theorem pb_not {b1 : Bool} (ha : PT X a (TBt G b1 s1)) : PT X (.UnaryOp .Not a pos) (TBt G (!b1) s1) :=
  pt_weak (pt_not ha) fun σ H Q ⟨hg, h1, z⟩ => ⟨hg, h1, fun H1 S1 => z H1 S1⟩
/-- as values -/
theorem pv_and1 {bb : Bool} (ha : PE X a (TB G bb s)) : PE X (.BoolOp .And [a] pos) (TB G bb s) := pe_one ha
theorem pv_and {rest : List Expr} {b1 b2 : Bool} (hG : GS G) (ha : PE X a (TB G b1 s1)) (hb : PE X (.BoolOp .And (b :: rest) pos) (TB G b2 s2)) : PE X (.BoolOp .And (a :: b :: rest) pos) (TB G (b1 && b2) (s1 ∧ (b1 = true → s2))) :=
  pe_weak (pe_and ha hb) fun σ H Q ⟨hg, ⟨h1, h2⟩, z⟩ => ⟨hg, h1, fun H1 S1 => ⟨b1, rfl, by
    cases b1 with
    | false => exact iteF (by simpa using z H1 S1)
    | true => exact iteT ⟨hG _ _ _ hg S1, h2 rfl, fun H2 S2 => by simpa using z H2 (S1.trans S2)⟩⟩⟩
theorem pv_or1 {bb : Bool} (ha : PE X a (TB G bb s)) : PE X (.BoolOp .Or [a] pos) (TB G bb s) := pe_one ha
theorem pv_or {rest : List Expr} {b1 b2 : Bool} (hG : GS G) (ha : PE X a (TB G b1 s1)) (hb : PE X (.BoolOp .Or (b :: rest) pos) (TB G b2 s2)) : PE X (.BoolOp .Or (a :: b :: rest) pos) (TB G (b1 || b2) (s1 ∧ (b1 = false → s2))) :=
  pe_weak (pe_or ha hb) fun σ H Q ⟨hg, ⟨h1, h2⟩, z⟩ => ⟨hg, h1, fun H1 S1 => ⟨b1, rfl, by
    cases b1 with
    | true => exact iteT (by simpa using z H1 S1)
    | false => exact iteF ⟨hG _ _ _ hg S1, h2 rfl, fun H2 S2 => by simpa using z H2 (S1.trans S2)⟩⟩⟩
/-- scalars compared -/
theorem pb_eq {b1 b2 : Bool} (hG : GS G) (hm : behindInMarks .Eq b = false) (ha : PE X a (TB G b1 s1)) (hb : PE X b (TB G b2 s2)) : PE X (.Compare a [.Eq] [b] pos) (TB G (decide (b1 = b2)) (s1 ∧ s2)) :=
  pe_weak (pe_cmpR op_eq ha hb hm) fun σ H Q ⟨hg, ⟨h1, h2⟩, z⟩ => ⟨hg, h1, fun H1 S1 => ⟨hG _ _ _ hg S1, h2, fun H2 S2 => ⟨rfl, by
    rw [show decide (V.bl b1 = V.bl b2) = decide (b1 = b2) by cases b1 <;> cases b2 <;> rfl]; exact z H2 (S1.trans S2)⟩⟩⟩
theorem pb_ne {b1 b2 : Bool} (hG : GS G) (hm : behindInMarks .NotEq b = false) (ha : PE X a (TB G b1 s1)) (hb : PE X b (TB G b2 s2)) : PE X (.Compare a [.NotEq] [b] pos) (TB G (!decide (b1 = b2)) (s1 ∧ s2)) :=
  pe_weak (pe_cmpR op_ne ha hb hm) fun σ H Q ⟨hg, ⟨h1, h2⟩, z⟩ => ⟨hg, h1, fun H1 S1 => ⟨hG _ _ _ hg S1, h2, fun H2 S2 => ⟨rfl, by
    rw [show decide (V.bl b1 = V.bl b2) = decide (b1 = b2) by cases b1 <;> cases b2 <;> rfl]; exact z H2 (S1.trans S2)⟩⟩⟩
theorem pS_eq {x y : Str} (hG : GS G) (hm : behindInMarks .Eq b = false) (ha : PE X a (TS G x s1)) (hb : PE X b (TS G y s2)) : PE X (.Compare a [.Eq] [b] pos) (TB G (decide (x = y)) (s1 ∧ s2)) :=
  pe_weak (pe_cmpR op_eq ha hb hm) fun σ H Q ⟨hg, ⟨h1, h2⟩, z⟩ => ⟨hg, h1, fun H1 S1 => ⟨hG _ _ _ hg S1, h2, fun H2 S2 => ⟨rfl, by
    have e : decide (V.str x = V.str y) = decide (x = y) := by
      by_cases h : x = y
      · rw [h]; simp
      · rw [decide_eq_false h, decide_eq_false (fun z => h (V.str.inj z))]
    rw [e]; exact z H2 (S1.trans S2)⟩⟩⟩
theorem dint {i j : Int} : decide (V.int i = V.int j) = decide (i = j) := by
  by_cases h : i = j
  · rw [h]; simp
  · rw [decide_eq_false h, decide_eq_false (fun z => h (V.int.inj z))]
theorem pI_eq {i j : Int} (hG : GS G) (hm : behindInMarks .Eq b = false) (ha : PE X a (TI G i s1)) (hb : PE X b (TI G j s2)) : PE X (.Compare a [.Eq] [b] pos) (TB G (decide (i = j)) (s1 ∧ s2)) :=
  pe_weak (pe_cmpR op_eq ha hb hm) fun σ H Q ⟨hg, ⟨h1, h2⟩, z⟩ => ⟨hg, h1, fun H1 S1 => ⟨hG _ _ _ hg S1, h2, fun H2 S2 => ⟨rfl, by rw [dint]; exact z H2 (S1.trans S2)⟩⟩⟩
theorem pI_ne {i j : Int} (hG : GS G) (hm : behindInMarks .NotEq b = false) (ha : PE X a (TI G i s1)) (hb : PE X b (TI G j s2)) : PE X (.Compare a [.NotEq] [b] pos) (TB G (!decide (i = j)) (s1 ∧ s2)) :=
  pe_weak (pe_cmpR op_ne ha hb hm) fun σ H Q ⟨hg, ⟨h1, h2⟩, z⟩ => ⟨hg, h1, fun H1 S1 => ⟨hG _ _ _ hg S1, h2, fun H2 S2 => ⟨rfl, by rw [dint]; exact z H2 (S1.trans S2)⟩⟩⟩
theorem pI_le {i j : Int} (hG : GS G) (hm : behindInMarks .LtE b = false) (ha : PE X a (TI G i s1)) (hb : PE X b (TI G j s2)) : PE X (.Compare a [.LtE] [b] pos) (TB G (decide (i ≤ j)) (s1 ∧ s2)) :=
  pe_weak (pe_cmpR op_le ha hb hm) fun σ H Q ⟨hg, ⟨h1, h2⟩, z⟩ => ⟨hg, h1, fun H1 S1 => ⟨hG _ _ _ hg S1, h2, fun H2 S2 => ⟨_, _, rfl, rfl, z H2 (S1.trans S2)⟩⟩⟩
theorem pI_gt {i j : Int} (hG : GS G) (hm : behindInMarks .Gt b = false) (ha : PE X a (TI G i s1)) (hb : PE X b (TI G j s2)) : PE X (.Compare a [.Gt] [b] pos) (TB G (decide (i > j)) (s1 ∧ s2)) :=
  pe_weak (pe_cmpR op_gt ha hb hm) fun σ H Q ⟨hg, ⟨h1, h2⟩, z⟩ => ⟨hg, h1, fun H1 S1 => ⟨hG _ _ _ hg S1, h2, fun H2 S2 => ⟨_, _, rfl, rfl, z H2 (S1.trans S2)⟩⟩⟩
theorem pI_var {i : Nat} {z : Int} (h : PE X e (tVar i)) (g : ∀ σ H, G σ H → σ[i]? = some (some (.int z))) : PE X e (TI G z True) :=
  pe_weak h fun σ H Q ⟨hg, _, w⟩ => ⟨_, g σ H hg, w H (Same.refl _)⟩
theorem pI_int {i j pos} : PE X (.Constant (.int i) j pos) (TI G i True) := pe_weak pe_int fun σ H Q ⟨hg, _, z⟩ => z H (Same.refl _)
theorem pI_add {i j : Int} (hG : GS G) (ha : PE X a (TI G i s1)) (hb : PE X b (TI G j s2)) : PE X (.BinOp a .Add b pos) (TI G (i + j) (s1 ∧ s2)) :=
  pe_weak (pe_op op_add ha hb) fun σ H Q ⟨hg, ⟨h1, h2⟩, z⟩ => ⟨hg, h1, fun H1 S1 => ⟨hG _ _ _ hg S1, h2, fun H2 S2 => ⟨_, _, rfl, rfl, z H2 (S1.trans S2)⟩⟩⟩
end
end SQ

/-! From the class's defs to the rules of expressions. -/
namespace SQ
open PySem PySem.Spec PyProof.Rows L2 SF
/-- a special of the class -/
structure Has (K : PySem.W.Frag) (C : Addr) (name : Str) (f : Addr) : Prop where
  h : PySem.W.findIn K (.ref C) name = some (some (.ref f))
  i : PySem.W.isFn K (.ref f) = true
structure Ne0 (K : PySem.W.Frag) (C : Addr) : Prop where
  h : PySem.W.findIn K (.ref C) "__ne__" = some (some (.builtin "object.__ne__"))
structure NoInt (K : PySem.W.Frag) (C : Addr) : Prop where
  h : PySem.W.subIn K (.type "int") (.ref C) = some false
/-- a def with its promise -/
structure Df (P : Program) (w : World) (K : PySem.W.Frag) (mg : Str → Option Value) (base : Heap) (l : Nat) (ps : List Str) (sp : Sp) where
  f : Addr
  fd : FuncData
  G : FnOk P w K mg base CX0 l f fd ps sp
  b : Binds K fd ps []
def Df.up {P : Program} {w : World} {K : PySem.W.Frag} {mg : Str → Option Value} {base : Heap} {l l' : Nat} {ps : List Str} {sp : Sp} (D : Df P w K mg base l ps sp) (h : l ≤ l') : Df P w K mg base l' ps sp := ⟨D.f, D.fd, D.G.mono h, D.b⟩
section
variable {X : Cx} {C : Addr} {G : L2.St → Hp → Prop} {a b e : Expr} {k k1 k2 : Bool} {l n m : Nat} {q r : Rat} {s s1 s2 : Prop} {pos p1 p2 : Pos} {side : Rat → Rat → Prop} {f : Rat → Rat → Rat} {g : Nat → Nat → Nat} {op : Operator} {ps : List Str}
theorem nv_true {H : Hp} {v : V} (x : NV C H true v n q) : ∃ a, v = .ref a ∧ RQ C H a n q := x
theorem nv_false {H : Hp} {v : V} (x : NV C H false v n q) : ∃ i : Int, v = .int i ∧ q = (i : Rat) := let ⟨i, a, b, _⟩ := x; ⟨i, a, b⟩
theorem op_q (D : Df X.prog X.w X.K X.mg X.base l ps (spM C side f g)) (O : OwnOp X.K C op D.f) (hr : Room l X.A) : OpR X (binaryOp op) (rQ C true k2 side f g) := by
  intro pins st σ H x y v u Q I rx ry h
  obtain ⟨n, m, q, r, nx, ny, hs, hl, z⟩ := h
  refine op_OB (E := E0) O D.G D.b hr pass0 pins st σ H x y v u Q I rx ry ⟨?_, ?_, ?_⟩
  · obtain ⟨a, rfl, y⟩ := nx; exact y.ins
  · exact ny.kind
  · obtain ⟨a, rfl, y'⟩ := nx
    exact ⟨a, k2, y, n, m, q, r, rfl, y', ny, hs, hl, z⟩
theorem op_qR {idl : String} {side' : Rat → Rat → Prop} {f' : Rat → Rat → Rat} {g' : Nat → Nat → Nat} {fa : Addr} (N : IntNo op idl) (D : Df X.prog X.w X.K X.mg X.base l ps (spM C side' f' g')) (O : OwnOpR X.K C op fa D.f) (hr : Room l X.A)
    (es : ∀ q r, side q r → side' r q) (ef : ∀ q r, f' r q = f q r) (eg : ∀ n m, g' m n = g n m) : OpR X (binaryOp op) (rQ C false true side f g) := by
  intro pins st σ H x y v u Q I rx ry h
  obtain ⟨n, m, q, r, nx, ny, hs, hl, z⟩ := h
  obtain ⟨i, e1, e2⟩ := nv_false nx
  obtain ⟨a, e3, y'⟩ := nv_true ny
  refine op_OBR (E := E0) N O D.G D.b hr pass0 pins st σ H x y v u Q I rx ry ⟨⟨i, e1⟩, ?_, ?_⟩
  · rw [e3]; exact y'.ins
  · rw [e3]
    refine ⟨a, false, x, m, n, r, q, rfl, y', nx, es q r hs, by rw [eg]; exact hl, fun p H' S rq => z p H' S ?_⟩
    rw [eg, ef] at rq
    exact rq
theorem un_q {sd : Rat → Prop} {f1 : Rat → Rat} (D : Df X.prog X.w X.K X.mg X.base l ps (sp1 C sd f1)) (hs : Has X.K C "__neg__" D.f) (hr : Room l X.A) : UnR X (unaryOp .USub) (rQ1 C sd f1) := by
  intro pins st σ H x v Q I rx h
  obtain ⟨n, q, nx, hs', hl, z⟩ := h
  obtain ⟨a, rfl, y'⟩ := nv_true nx
  exact un_ON (E := E0) hs.h hs.i D.G D.b hr pass0 pins st σ H _ v Q I rx ⟨y'.ins, a, n, q, rfl, y', hs', hl, z⟩
theorem pq_abs {x : Str} {sd : Rat → Prop} {f1 : Rat → Rat} (D : Df X.prog X.w X.K X.mg X.base l ps (sp1 C sd f1)) (hs : Has X.K C "__abs__" D.f) (hr : Room (l + 1) X.A)
    (hg : Gl X x) (hm : X.mg x = none) (hv : bootBuiltins x = some (.builtin "abs")) (ha : PE X a (TQ C G true n q s)) (hn : x ≠ "__name__" := by decide) (hdb : (x == ("__debug__" : Str)) = false := by decide)
    (he : starEach (a :: []) X.env = (false, eval a X.env) :: starEach [] X.env := by rfl) (hpl : (backTo pos (starEach [] X.env)).any (·.1) = false := by rfl) : PE X (.Call (.Name x p1) [a] [] pos) (TQ C G true n (f1 q) (s ∧ sd q ∧ n ≤ LIM)) :=
  pe_weak (pe_callB (call_absOwn (E := E0) hs.h hs.i D.G D.b hr pass0) hg hm hv (pa_cons ha pa_nil he) hn hdb he hpl) fun σ H Q ⟨hg, ⟨h1, h2, h3⟩, z⟩ =>
    ⟨hg, h1, fun v H1 S1 nv => by
      obtain ⟨a, rfl, y'⟩ := nv_true nv
      exact ⟨_, rfl, y'.ins, a, n, q, rfl, y', h2, h3, fun p H2 S2 rq => z _ H2 (S1.trans S2) rq.nv⟩⟩
/-! #### comparisons -/
section
variable {fld : Str}
theorem RC.typ {K : PySem.W.Frag} {mg : Str → Option Value} {H : Hp} {a : Addr} {t b : Int} (T : RC K mg C) (r : RatH C H a t b) : TyX K H (.ref a) (.ref C) := let ⟨dx, e⟩ := r; .base (.ins e T.cl T.ca T.cn T.ct T.cm)
theorem nfC {K : PySem.W.Frag} : PySem.W.notFirst K C (.ref C) = true := by simp [PySem.W.notFirst]
theorem nfI {K : PySem.W.Frag} (h : PySem.W.subIn K (.type "int") (.ref C) = some false) : PySem.W.notFirst K C (.type "int") = true := by
  unfold PySem.W.notFirst
  rw [h]
  simp
theorem nv_ty {K : PySem.W.Frag} {mg : Str → Option Value} {H : Hp} {v : V} (T : RC K mg C) (hi : PySem.W.subIn K (.type "int") (.ref C) = some false) (x : NV C H k v n q) : ∃ tb, TyX K H v tb ∧ PySem.W.notFirst K C tb = true := by
  cases k with
  | true => obtain ⟨a, rfl, y⟩ := x; exact ⟨_, T.typ y.1, nfC⟩
  | false => obtain ⟨i, rfl, _⟩ := x; exact ⟨_, .base (.int i), nfI hi⟩
theorem op_eqq (T : RC X.K X.mg C) (hi : NoInt X.K C) (D : Df X.prog X.w X.K X.mg X.base l ps (spEq C)) (hs : Has X.K C "__eq__" D.f) (hr : Room l X.A) :
    OpR X (compareOp .Eq) (rQe C k2 fun q r => decide (q = r)) := by
  intro pins st σ H x y v u Q I rx ry h
  obtain ⟨n, m, q, r, nx, ny, z⟩ := h
  obtain ⟨a, rfl, y'⟩ := nv_true nx
  obtain ⟨tb, hty, hnf⟩ := nv_ty T hi.h ny
  obtain ⟨⟨dx, ea⟩, _⟩ := id y'
  exact op_ownL (op := .Eq) (E := E0) (fun _ _ => rfl) hs.h hs.i D.G D.b hr pass0 pins st σ H _ y v u Q I rx ry ⟨a, dx, _, tb, rfl, ea, hty, hnf, a, n, q, y, rfl, y', .inl ⟨k2, m, r, ny, z⟩⟩
theorem op_neq (T : RC X.K X.mg C) (hi : NoInt X.K C) (D : Df X.prog X.w X.K X.mg X.base l ps (spEq C)) (hne : Ne0 X.K C) (hs : Has X.K C "__eq__" D.f) (hr : Room (l + 1) X.A) : OpR X (compareOp .NotEq) (rQe C k2 fun q r => !decide (q = r)) := by
  intro pins st σ H x y v u Q I rx ry h
  obtain ⟨n, m, q, r, nx, ny, z⟩ := h
  obtain ⟨a, rfl, y'⟩ := nv_true nx
  obtain ⟨tb, hty, hnf⟩ := nv_ty T hi.h ny
  obtain ⟨⟨dx, ea⟩, _⟩ := id y'
  exact op_ownNeL (E := E0) hne.h T.cm hs.h hs.i D.G D.b hr pass0 pins st σ H _ y v u Q I rx ry ⟨a, dx, _, tb, rfl, ea, hty, hnf, a, n, q, y, rfl, y', .inl ⟨k2, m, r, ny, _, rfl, z⟩⟩
end
/-! #### e.top, e.bottom, str(e), repr(e), bool(e) -/
theorem pI_top {p : Addr} {ps : List Str} (T : Cls X.K C) (D : Df X.prog X.w X.K X.mg X.base l ps (getSp C "_top")) (hp : PropOf X.K C "top" p D.f) (hr : Room (l + 1) X.A) (ha : PE X a (TQ C G true n q s))
    (hab : attributeBase a "top" X.env (eval a X.env) = eval a X.env := by rfl) : PE X (.Attribute a "top" pos) (TI G q.num s) :=
  pe_weak (pe_prop (E := E0) ha T hp D.G hr D.b .nil pass0 hab) fun σ H Q ⟨hg, h1, z⟩ => ⟨hg, h1, fun v H1 S1 nv => by
    obtain ⟨a, rfl, ⟨dx, e⟩, _⟩ := nv_true nv
    exact ⟨a, dx, _, rfl, e, a, dx, _, _, rfl, e, rf_top _ _, z H1 S1⟩⟩
theorem pI_bot {p : Addr} {ps : List Str} (T : Cls X.K C) (D : Df X.prog X.w X.K X.mg X.base l ps (getSp C "_bottom")) (hp : PropOf X.K C "bottom" p D.f) (hr : Room (l + 1) X.A) (ha : PE X a (TQ C G true n q s))
    (hab : attributeBase a "bottom" X.env (eval a X.env) = eval a X.env := by rfl) : PE X (.Attribute a "bottom" pos) (TI G (q.den : Int) s) :=
  pe_weak (pe_prop (E := E0) ha T hp D.G hr D.b .nil pass0 hab) fun σ H Q ⟨hg, h1, z⟩ => ⟨hg, h1, fun v H1 S1 nv => by
    obtain ⟨a, rfl, ⟨dx, e⟩, _⟩ := nv_true nv
    exact ⟨a, dx, _, rfl, e, a, dx, _, _, rfl, e, rf_bot _ _, z H1 S1⟩⟩
theorem pS_str {x : Str} (D : Df X.prog X.w X.K X.mg X.base l ps (spStr C)) (hs : Has X.K C "__str__" D.f) (hr : Room (l + 2) X.A)
    (hg : Gl X x) (hm : X.mg x = none) (hv : bootBuiltins x = some (.type "str")) (ha : PE X a (TQ C G true n q s)) (hn : x ≠ "__name__" := by decide) (hdb : (x == ("__debug__" : Str)) = false := by decide)
    (he : starEach (a :: []) X.env = (false, eval a X.env) :: starEach [] X.env := by rfl) (hpl : (backTo pos (starEach [] X.env)).any (·.1) = false := by rfl) : PE X (.Call (.Name x p1) [a] [] pos) (TS G (rstr q) (s ∧ n ≤ 1900)) :=
  pe_weak (pe_callTy (call_strOwn (E := E0) hs.h hs.i D.G D.b hr pass0) hg hm hv (pa_cons ha pa_nil he) hn hdb he hpl) fun σ H Q ⟨hg, ⟨h1, h2⟩, z⟩ =>
    ⟨hg, h1, fun v H1 S1 nv => by
      obtain ⟨a, rfl, y'⟩ := nv_true nv
      obtain ⟨⟨dx, e⟩, _⟩ := id y'
      exact ⟨a, dx, _, rfl, e, a, n, q, rfl, y', h2, _, rfl, z H1 S1⟩⟩
theorem pS_repr {x : Str} (D : Df X.prog X.w X.K X.mg X.base l ps (spRepr C)) (hs : Has X.K C "__repr__" D.f) (hr : Room (l + 1) X.A)
    (hg : Gl X x) (hm : X.mg x = none) (hv : bootBuiltins x = some (.builtin "repr")) (ha : PE X a (TQ C G true n q s)) (hn : x ≠ "__name__" := by decide) (hdb : (x == ("__debug__" : Str)) = false := by decide)
    (he : starEach (a :: []) X.env = (false, eval a X.env) :: starEach [] X.env := by rfl) (hpl : (backTo pos (starEach [] X.env)).any (·.1) = false := by rfl) : PE X (.Call (.Name x p1) [a] [] pos) (TS G (rrepr q) (s ∧ n ≤ 1900)) :=
  pe_weak (pe_callB (call_reprOwn (E := E0) hs.h hs.i D.G D.b hr pass0) hg hm hv (pa_cons ha pa_nil he) hn hdb he hpl) fun σ H Q ⟨hg, ⟨h1, h2⟩, z⟩ =>
    ⟨hg, h1, fun v H1 S1 nv => by
      obtain ⟨a, rfl, y'⟩ := nv_true nv
      obtain ⟨⟨dx, e⟩, _⟩ := id y'
      exact ⟨a, dx, _, rfl, e, a, n, q, rfl, y', h2, _, rfl, z H1 S1⟩⟩
theorem pb_bool {x : Str} (D : Df X.prog X.w X.K X.mg X.base l ps (spBool C)) (hs : Has X.K C "__bool__" D.f) (hr : Room (l + 2) X.A)
    (hg : Gl X x) (hm : X.mg x = none) (hv : bootBuiltins x = some (.type "bool")) (ha : PE X a (TQ C G true n q s)) (hn : x ≠ "__name__" := by decide) (hdb : (x == ("__debug__" : Str)) = false := by decide)
    (he : starEach (a :: []) X.env = (false, eval a X.env) :: starEach [] X.env := by rfl) (hpl : (backTo pos (starEach [] X.env)).any (·.1) = false := by rfl) : PE X (.Call (.Name x p1) [a] [] pos) (TB G (decide (q ≠ 0)) s) :=
  pe_weak (pe_callTy (call_boolOwn (E := E0) hs.h hs.i D.G D.b hr pass0) hg hm hv (pa_cons ha pa_nil he) hn hdb he hpl) fun σ H Q ⟨hg, h1, z⟩ =>
    ⟨hg, h1, fun v H1 S1 nv => by
      obtain ⟨a, rfl, y'⟩ := nv_true nv
      obtain ⟨⟨dx, e⟩, _⟩ := id y'
      exact ⟨a, dx, _, rfl, e, a, n, q, rfl, y', _, rfl, z H1 S1⟩⟩
/-! #### methods -/
theorem pq_over {pl : Sem Bool} {o : Expr} {apos : Pos} (c : Cls X.K C) (D : Df X.prog X.w X.K X.mg X.base l ps (spM C side f g)) (hm : Meth X.K C "over" D.f) (hr : Room l X.A) (hG : GS G) (ho : PE X o (TQ C G true n q s1)) (ha : PE X a (TQ C G k2 m r s2))
    (hst : starEach (a :: []) X.env = (false, eval a X.env) :: starEach [] X.env := by rfl) (hpl : (backTo pos (starEach [] X.env)).any (·.1) = false := by rfl)
    (ht : eval (.Call (.Attribute o "over" apos) [a] [] pos) X.env = (do
      let ov ← eval o X.env
      standAt apos.atName
      let (f, first) ← holding [ov] (getMethod ov "over" pl)
      callWith pos f first (backTo pos (starEach (a :: []) X.env)) (backToKw pos (keywordEach [] X.env))) := by rfl) : PE X (.Call (.Attribute o "over" apos) [a] [] pos) (TQ C G true (g n m) (f q r) (s1 ∧ s2 ∧ side q r ∧ g n m ≤ LIM)) :=
  pe_weak (pe_meth (pl := pl) (E := E0) ho c hm D.G hr D.b .nil pass0 (pa_cons ha pa_nil hst) hst hpl ht) fun σ H Q ⟨hg, ⟨h1, h2, h3, h4⟩, z⟩ =>
    ⟨hg, h1, fun v H1 S1 nv => by
      obtain ⟨a, rfl, y'⟩ := nv_true nv
      obtain ⟨⟨dx, e⟩, _⟩ := id y'
      exact ⟨a, dx, _, rfl, e, rf_no _ _ (by decide +kernel) (by decide +kernel), hG _ _ _ hg S1, h2, fun u H2 S2 nu => ⟨a, k2, u, n, m, q, r, rfl, y'.same S2, nu, h3, h4, fun p H3 S3 rq => z _ H3 ((S1.trans S2).trans S3) rq.nv⟩⟩⟩
theorem pq_power {pl : Sem Bool} {o : Expr} {apos : Pos} {i : Int} (c : Cls X.K C) (D : Df X.prog X.w X.K X.mg X.base l ps (spPow C)) (hm : Meth X.K C "power" D.f) (hr : Room l X.A) (hG : GS G) (ho : PE X o (TQ C G true n q s1)) (ha : PE X a (TI G i s2))
    (hst : starEach (a :: []) X.env = (false, eval a X.env) :: starEach [] X.env := by rfl) (hpl : (backTo pos (starEach [] X.env)).any (·.1) = false := by rfl)
    (ht : eval (.Call (.Attribute o "power" apos) [a] [] pos) X.env = (do
      let ov ← eval o X.env
      standAt apos.atName
      let (f, first) ← holding [ov] (getMethod ov "power" pl)
      callWith pos f first (backTo pos (starEach (a :: []) X.env)) (backToKw pos (keywordEach [] X.env))) := by rfl) : PE X (.Call (.Attribute o "power" apos) [a] [] pos) (TQ C G true (n * i.natAbs + 1) (q ^ i) (s1 ∧ s2 ∧ -20 ≤ i ∧ i ≤ 20 ∧ (q ≠ 0 ∨ 0 ≤ i) ∧ n * i.natAbs + 1 ≤ LIM ∧ n ≤ LIM)) :=
  pe_weak (pe_meth (pl := pl) (E := E0) ho c hm D.G hr D.b .nil pass0 (pa_cons ha pa_nil hst) hst hpl ht) fun σ H Q ⟨hg, ⟨h1, h2, h3⟩, z⟩ =>
    ⟨hg, h1, fun v H1 S1 nv => by
      obtain ⟨a, rfl, y'⟩ := nv_true nv
      obtain ⟨⟨dx, e⟩, _⟩ := id y'
      obtain ⟨h31, h32, h33, h34, h35⟩ := h3
      exact ⟨a, dx, _, rfl, e, rf_no _ _ (by decide +kernel) (by decide +kernel), hG _ _ _ hg S1, h2, fun H2 S2 => ⟨a, n, q, i, rfl, y'.same S2, h31, h32, h33, h34, h35, fun p H3 S3 rq => z _ H3 ((S1.trans S2).trans S3) rq.nv⟩⟩⟩
/-- a ** i -/
theorem pq_pow {i : Int} (D : Df X.prog X.w X.K X.mg X.base l ps (spPow C)) (O : OwnOp X.K C .Pow D.f) (hr : Room l X.A) (hG : GS G) (ha : PE X a (TQ C G true n q s1)) (hb : PE X b (TI G i s2)) :
    PE X (.BinOp a .Pow b pos) (TQ C G true (n * i.natAbs + 1) (q ^ i) (s1 ∧ s2 ∧ -20 ≤ i ∧ i ≤ 20 ∧ (q ≠ 0 ∨ 0 ≤ i) ∧ n * i.natAbs + 1 ≤ LIM ∧ n ≤ LIM)) :=
  pe_weak (pe_op (op_OB (E := E0) O D.G D.b hr pass0) ha hb) fun σ H Q ⟨hg, ⟨h1, h2, h3⟩, z⟩ =>
    ⟨hg, h1, fun v H1 S1 nv => by
      obtain ⟨a, rfl, y'⟩ := nv_true nv
      obtain ⟨h31, h32, h33, h34, h35⟩ := h3
      exact ⟨hG _ _ _ hg S1, h2, fun H2 S2 => ⟨(y'.same S2).ins, .inr ⟨i, rfl⟩, a, n, q, i, rfl, y'.same S2, h31, h32, h33, h34, h35, fun p H3 S3 rq => z _ H3 ((S1.trans S2).trans S3) rq.nv⟩⟩⟩
/-- Ratio(e, f) -/
theorem pq_make {x : Str} {i j : Int} {p : Addr} {fd : FuncData} (M : Mk X.K C p) (F : FnOk X.prog X.w X.K X.mg X.base CX0 l p fd ["self", "top", "bottom"] (spInit C)) (hb : Binds X.K fd ["self", "top", "bottom"] []) (hr : Room (l + 1) X.A) (hg : Gl X x) (hm : X.mg x = some (.ref C)) (hG : GS G)
    (ha : PE X a (TI G i s1)) (hb' : PE X b (TI G j s2)) (hi : i.natAbs < 2 ^ n) (hj : j.natAbs < 2 ^ n) (hdb : (x == ("__debug__" : Str)) = false := by decide)
    (he : starEach (a :: [b]) X.env = (false, eval a X.env) :: starEach [b] X.env := by rfl) (he2 : starEach (b :: []) X.env = (false, eval b X.env) :: starEach [] X.env := by rfl) (hpl : (backTo pos (starEach [b] X.env)).any (·.1) = false := by rfl) :
    PE X (.Call (.Name x p1) [a, b] [] pos) (TQ C G true n (Rat.divInt i j) (s1 ∧ s2 ∧ j ≠ 0 ∧ n ≤ LIM)) :=
  pe_weak (pe_make (E := E0) M F hr hg hm hb .nil pass0 (pa_cons ha (pa_cons hb' pa_nil he2) he) hdb he hpl) fun σ H Q ⟨hg, ⟨h1, h2, h3, h4⟩, z⟩ =>
    ⟨hg, h1, fun H1 S1 => ⟨hG _ _ _ hg S1, h2, fun H2 S2 x dx hx hd hn => mk_fin hx hd hn h3 hi hj h4 fun H3 S3 rq => ⟨rfl, z _ H3 ((S1.trans S2).trans S3) rq.nv⟩⟩⟩
end
end SQ

/-! enumerate over a tuple; comprehensions that only make objects; != with an own instance on the right; entries compared. -/
namespace SKx
open PySem
open AutoSeq1 (wpAny_loadPart')
theorem meets_enumT (l : Addr) (its : Array Value) (n : Nat) (da : Option Addr) (sl : Array (Option Value)) :
    Meets (Builtin.«enumerate.__new__» ⟨[.type "enumerate", .ref l], []⟩) (fun _ R s => s.heap.get? l = some { cls := .type "tuple", dict := da, data := .seq its n, slots := sl } ∧
      R (.ok (.ret (.ref (s.heap.push { cls := .type "tuple_iterator", data := .fields #[.ref l, .int 0 0] }).objs.size)))
        { s with heap := (s.heap.push { cls := .type "tuple_iterator", data := .fields #[.ref l, .int 0 0] }).push { cls := .type "enumerate", data := .fields #[.none, .bool false, .ref s.heap.objs.size, rawInt 0, .none, .none] } }) :=
  .of_wp fun prog w A R s h => by
    obtain ⟨hp, g, d, tk, os⟩ := s; obtain ⟨hl, h⟩ := h
    have sE := sub_enumerate
    have hT : Heap.IsTuple (Shared.heap ⟨hp, g, d, tk, os⟩) l its := ⟨_, hl, rfl, n, rfl⟩
    wp_walk using wpAny_loadPart' hl
    refine wpAny_stack_any fun st => wpAny_pure ?_
    split
    · rename_i c _ _ _ _ _
      cases (c == Value.type "enumerate")
      · wp_walk using wpAny_loadPart' hl, wpAny_pyIter_tuple hT
        exact ⟨_, rfl, h⟩
      · wp_walk using wpAny_loadPart' hl, wpAny_pyIter_tuple hT
        exact ⟨_, rfl, h⟩
    · wp_walk using wpAny_loadPart' hl, wpAny_pyIter_tuple hT
      exact ⟨_, rfl, h⟩
section
variable {prog : Program} {w : World} {A : Around} {E : Value → Shared → Prop} {s : Shared}
theorem call_enumT {l : Addr} {its : Array Value} {Q : Value → Shared → Prop} (hT : s.heap.IsTuple l its)
    (h : ∀ h', IsEnum h' (s.heap.objs.size + 1) s.heap.objs.size 0 .none → h'.IsTupleIter s.heap.objs.size l 0 →
      (∀ b o, s.heap.get? b = some o → h'.get? b = some o) → Q (.ref (s.heap.objs.size + 1)) { s with heap := h' }) :
    wpAny (model prog w) A (call (.type "enumerate") [.ref l]) Q E s := by
  obtain ⟨⟨c, da, dt, sl⟩, hl, hc, n, hd⟩ := hT
  replace hc : c = .type "tuple" := hc
  replace hd : dt = .seq its n := hd
  subst hc hd
  refine callType_new F.called_enumerate (by decide) (F.typeCall_enumerate_1 _) (F.newCall_enumerate_1 _) (fun obj => F.args_object_init_2 obj _) F.entry_enumerate_new
    (meets_enumT l its n da sl) ⟨hl, ?_⟩
  have hz : (s.heap.push { cls := .type "tuple_iterator", data := .fields #[.ref l, .int 0 0] }).objs.size = s.heap.objs.size + 1 := Heap.size_push ..
  show _ ∧ _
  rw [hz]
  have he : IsEnum ((s.heap.push { cls := .type "tuple_iterator", data := .fields #[.ref l, .int 0 0] }).push { cls := .type "enumerate", data := .fields #[.none, .bool false, .ref s.heap.objs.size, rawInt 0, .none, .none] })
      (s.heap.objs.size + 1) s.heap.objs.size 0 .none := by
    have q := Heap.get?_push_size (s.heap.push { cls := .type "tuple_iterator", data := .fields #[.ref l, .int 0 0] }) (o := { cls := .type "enumerate", data := .fields #[.none, .bool false, .ref s.heap.objs.size, rawInt 0, .none, .none] }) rfl
    rw [hz] at q; exact q
  exact ⟨⟨_, he, rfl⟩, h _ he ⟨_, Heap.get?_push_of_some _ (Heap.get?_push_size _ rfl), rfl, rfl⟩ fun b o x => Heap.get?_push_of_some _ (Heap.get?_push_of_some _ x)⟩
end
end SKx
namespace SK
open PySem PySem.Spec PyProof.Rows L2 SF SQ
/-- the tuple at a, each item with its place in a new pair -/
def ItEt (K : PySem.W.Frag) (a : Addr) : It :=
  ⟨fun i H => ∃ (xs : List V) (x : V), SqT K H a xs ∧ xs[i]? = some x, fun i H v H' => ∃ T x, v = .ref T ∧ H T = none ∧ H' = upd H T (.tup [.int (i : Nat), x]) ∧ ∀ xs, SqT K H a xs → xs[i]? = some x, fun i H => ∃ xs : List V, SqT K H a xs ∧ xs.length ≤ i⟩
theorem turn_enumT {P : Program} {w : World} {K : PySem.W.Frag} {elts : List Expr} {kk : Nat} {tpos : Pos} (a e it : Addr) (hai : a ≠ it) (hae : a ≠ e) :
    Turn P w K (.Tuple elts kk tpos) (ItEt K a) [e, it] e (fun i h => (∃ old, IsEnum h e it ((i : Nat) : Int) old) ∧ h.IsTupleIter it a i ∧ e ≠ it) where
  mem := by simp
  obj := fun i h st b hb => by
    obtain ⟨⟨old, he⟩, ⟨o, ho, hc, hd⟩, _⟩ := st
    have e' : b = e ∨ b = it := by simpa using hb
    rcases e' with z | z
    · rw [z]; exact ⟨_, he, fun v q => nomatch q⟩
    · rw [z]; exact ⟨o, ho, fun v q => by rw [hd] at q; cases q⟩
  keep := fun i h h' st k => let ⟨⟨old, he⟩, hi, hne⟩ := st; ⟨⟨old, k e (by simp) _ he⟩, hi.at fun o q => k it (by simp) o q, hne⟩
  item := by
    intro X hP hw hK hc i pins s σ H E I hf st hg
    subst hP hw hK
    obtain ⟨⟨old, he⟩, hit, hne⟩ := st
    obtain ⟨xs, x, hq, hx⟩ := hg
    obtain ⟨its, rv, p, hz⟩ := I.tuple hq
    have p : s.heap.IsTuple a its.toArray := p
    obtain ⟨u, hu, ru⟩ := rv.get hx
    have hel : e < s.heap.objs.size := Heap.lt_size he
    have hil : it < s.heap.objs.size := by obtain ⟨_, q, _⟩ := hit; exact Heap.lt_size q
    have hlt : i < its.toArray.size := by rw [List.size_toArray]; exact (List.getElem?_eq_some_iff.mp hu).1
    refine wpAny_pyNext_enum_itemD (Draws.tuple (A := X.A.in1) (I.ok.hd hc) it a hai its.toArray) he ⟨hit, p⟩ hlt hne (fun q => by
      have q' : e = it ∨ e = a := by simpa using q
      exact q'.elim hne (Ne.symm hae)) fun y h' tk hy ho hit' hT hsz hk => ?_
    have ey : y = u := by
      have hy : its.toArray[i]? = some y := hy
      rw [List.getElem?_toArray, hu] at hy
      exact (Option.some.inj hy).symm
    subst ey
    refine ⟨_, rfl, wpAny_letOwnedTupleGo_enum (s := { s with heap := h', toks := tk + 1 }) ho fun h'' he' sb => ?_⟩
    have hT2 : h''.get? s.heap.objs.size = some { cls := .type "tuple", data := .seq #[.int i tk, y] } := (sb.2 _ (Nat.ne_of_gt hel)).trans hT
    have new : ObjOk X.prog X.w (upd H s.heap.objs.size (.tup [.int (i : Nat), x])) h'' s.heap.objs.size (.tup [.int (i : Nat), x]) :=
      ⟨by show 2 ≤ sizeLine; decide, [.int i tk, y], .cons ⟨_, rfl⟩ (.cons ru .nil), ⟨_, hT2, rfl, _, rfl⟩⟩
    have I1 : Inv X pins σ (upd H s.heap.objs.size (.tup [.int (i : Nat), x])) { s with heap := h'', toks := tk + 1 } :=
      I.turnedNew (ch := [e, it]) (fun b ob hb q => (sb.2 b (fun z => hb (by simp [z]))).trans (hk b ob (fun z => hb (by simp [z])) (fun z => hb (by simp [z])) q)) hf (Nat.le_refl _) new
    refine ⟨.ref s.heap.objs.size, _, I1, rfl, ⟨_, x, rfl, I.hok.fresh (Nat.le_refl _), rfl, fun ys hy => by rw [I.tuple_inj hy hq]; exact hx⟩, ⟨⟨y, ?_⟩, hit'.1.at fun o q => (sb.2 it (Ne.symm hne)).trans q, hne⟩, fun b hb => ?_⟩
    · have e1 : ((i + 1 : Nat) : Int) = (i : Int) + 1 := by omega
      rw [e1]; exact he'
    · have hb' : b < s.heap.objs.size := by
        have e' : b = e ∨ b = it := by simpa using hb
        rcases e' with z | z
        · rw [z]; exact hel
        · rw [z]; exact hil
      rw [upd_ne (Nat.ne_of_lt hb')]
      exact (hf b hb).1
  done := by
    intro X hP hw hK hc i pins s σ H E I hf st hg
    subst hP hw hK
    obtain ⟨⟨old, he⟩, hit, hne⟩ := st
    obtain ⟨xs, hq, hx⟩ := hg
    obtain ⟨its, rv, p, hz⟩ := I.tuple hq
    have p : s.heap.IsTuple a its.toArray := p
    obtain ⟨f0, f1, f2, f3, f4, f5⟩ := hf it (by simp)
    have hl := rv.length
    have D : Draws X.prog X.w X.A.in1 it [it, a] i (fun _ _ => True) (fun j h => j = i ∧ h.IsTupleIter it a i ∧ h.IsTuple a its.toArray) :=
      { live := fun _ _ st => let ⟨o, ho, _⟩ := st.2.1; ⟨o, ho⟩
        frame := fun _ _ _ st hk => ⟨st.1, st.2.1.at fun o e => hk it (by simp) o e, st.2.2.at fun o e => hk a (by simp) o e⟩
        item := fun j s Q E hj st hQ => absurd st.1 (Nat.ne_of_lt hj)
        done := fun s Q E st hE => wpAny_nextOf_tuple_end (I.ok.hd hc) st.2.1 st.2.2 (by simp; omega) hE }
    exact wpAny_pyNext_enum_endD D he ⟨rfl, hit, p⟩ fun h' eb => ⟨rfl, I.turned (t' := s.toks) (fun b o hb q => eb b o hb q) f0 f1 f3 f4 f5⟩
  self := fun A i s Q E st h => let ⟨⟨_, he⟩, _⟩ := st; wpAny_pyIter_enum he h
end SK

/-! Slots that hold fractions and ints. -/
namespace SQ
open PySem PySem.Spec PyProof.Rows L2 SF
/-- the pair of numerator and denominator stands at p, as a tuple -/
def PQ (H : Hp) (p : Addr) (n : Nat) (q : Rat) : Prop := H p = some (.tup [.int q.num, .int (q.den : Int)]) ∧ Sz n q
inductive Sl where
  | fr (n : Nat) (r : Rat)
  | nv (k : Bool) (n : Nat) (r : Rat)
  | i (z : Int)
  | pr (n : Nat) (r : Rat)
  | ls (l : List PySem.Str)
  | any
def Sl.ok (C : Addr) (H : Hp) : Sl → Option V → Prop
  | .fr n r, o => ∃ a, o = some (.ref a) ∧ RQ C H a n r
  | .nv k n r, o => ∃ v, o = some v ∧ NV C H k v n r
  | .i z, o => o = some (.int z)
  | .pr n r, o => ∃ p, o = some (.ref p) ∧ PQ H p n r
  | .ls l, o => ∃ p, o = some (.ref p) ∧ H p = some (.lst (l.map V.str))
  | .any, _ => True
def Env (C : Addr) : List Sl → L2.St → Hp → Prop
  | [], _, _ => True
  | s :: L, o :: σ, H => s.ok C H o ∧ Env C L σ H
  | _ :: _, [], _ => False
theorem Sl.same {C : Addr} {H H' : Hp} {s : Sl} {o : Option V} (h : s.ok C H o) (S : Same H H') : s.ok C H' o := by
  cases s with
  | fr n q => obtain ⟨a, e, r⟩ := h; exact ⟨a, e, r.same S⟩
  | nv k n q => obtain ⟨v, e, r⟩ := h; exact ⟨v, e, r.same S⟩
  | i z => exact h
  | pr n q => obtain ⟨p, e, r, z⟩ := h; exact ⟨p, e, S _ _ r, z⟩
  | ls l => obtain ⟨p, e, r⟩ := h; exact ⟨p, e, S _ _ r⟩
  | any => trivial
theorem Env.gs {C : Addr} : ∀ {L : List Sl}, GS (Env C L)
  | [], _, _, _, _, _ => trivial
  | _ :: L, _ :: σ, H, H', h, S => ⟨Sl.same h.1 S, Env.gs σ H H' h.2 S⟩
  | _ :: _, [], _, _, h, _ => h
theorem Env.at {C : Addr} : ∀ {L : List Sl} {σ : L2.St} {H : Hp} {j : Nat} {s : Sl}, Env C L σ H → L[j]? = some s → ∃ o, σ[j]? = some o ∧ s.ok C H o
  | _ :: _, o :: _, _, 0, s, h, e => by cases e; exact ⟨o, rfl, h.1⟩
  | _ :: L, _ :: σ, H, j + 1, s, h, e => by
    obtain ⟨o, e1, e2⟩ := Env.at (L := L) (σ := σ) (H := H) (j := j) h.2 e
    exact ⟨o, e1, e2⟩
  | [], _, _, _, _, _, e => by cases e
  | _ :: _, [], _, _, _, h, _ => h.elim
section
variable {X : Cx} {C : Addr} {G : L2.St → Hp → Prop} {a b e : Expr} {k k1 k2 : Bool} {n m : Nat} {q r : Rat} {s s1 s2 : Prop} {pos p1 p2 : Pos} {i j : Int}
/-- slot j holds a fraction -/
theorem vq (L : List Sl) (j : Nat) (h : PE X e (tVar j)) (hL : L[j]? = some (.fr n q)) : PE X e (TQ C (Env C L) true n q True) :=
  pq_var h fun σ H g => by
    obtain ⟨o, e1, a, rfl, r⟩ := g.at hL
    exact ⟨_, e1, r.nv⟩
theorem vnv (L : List Sl) (j : Nat) (h : PE X e (tVar j)) (hL : L[j]? = some (.nv k n q)) : PE X e (TQ C (Env C L) k n q True) :=
  pq_var h fun σ H g => by
    obtain ⟨o, e1, v, rfl, r⟩ := g.at hL
    exact ⟨_, e1, r⟩
theorem vi (L : List Sl) (j : Nat) {z : Int} (h : PE X e (tVar j)) (hL : L[j]? = some (.i z)) : PE X e (TI (Env C L) z True) :=
  pI_var h fun σ H g => by
    obtain ⟨o, e1, e2⟩ := g.at hL
    rw [e1, show o = some (.int z) from e2]
theorem pI_mul (hG : GS G) (ha : PE X a (TI G i s1)) (hb : PE X b (TI G j s2)) : PE X (.BinOp a .Mult b pos) (TI G (i * j) (s1 ∧ s2 ∧ CMulW i j)) :=
  pe_weak (pe_op op_mulW ha hb) fun σ H Q ⟨hg, ⟨h1, h2, h3⟩, z⟩ => ⟨hg, h1, fun H1 S1 => ⟨hG _ _ _ hg S1, h2, fun H2 S2 => ⟨_, _, rfl, rfl, h3, z H2 (S1.trans S2)⟩⟩⟩
theorem pI_sub (hG : GS G) (ha : PE X a (TI G i s1)) (hb : PE X b (TI G j s2)) : PE X (.BinOp a .Sub b pos) (TI G (i - j) (s1 ∧ s2)) :=
  pe_weak (pe_op op_sub ha hb) fun σ H Q ⟨hg, ⟨h1, h2⟩, z⟩ => ⟨hg, h1, fun H1 S1 => ⟨hG _ _ _ hg S1, h2, fun H2 S2 => ⟨_, _, rfl, rfl, z H2 (S1.trans S2)⟩⟩⟩
theorem pI_fdiv (hG : GS G) (ha : PE X a (TI G i s1)) (hb : PE X b (TI G j s2)) : PE X (.BinOp a .FloorDiv b pos) (TI G (i.fdiv j) (s1 ∧ s2 ∧ CDivZ i j)) :=
  pe_weak (pe_op op_fdivZ ha hb) fun σ H Q ⟨hg, ⟨h1, h2, h3⟩, z⟩ => ⟨hg, h1, fun H1 S1 => ⟨hG _ _ _ hg S1, h2, fun H2 S2 => ⟨_, _, rfl, rfl, h3, z H2 (S1.trans S2)⟩⟩⟩
theorem pI_neg (ha : PE X a (TI G i s1)) : PE X (.UnaryOp .USub a pos) (TI G (-i) s1) :=
  pe_weak (pe_un un_neg ha) fun σ H Q ⟨hg, h1, z⟩ => ⟨hg, h1, fun H1 S1 => ⟨_, rfl, z H1 S1⟩⟩
/-- e._top, e._bottom, read within the class -/
theorem pI_ftop (T : Cls X.K C) (hN : NoAttr X.K C "_top") (ha : PE X a (TQ C G true n q s)) (hab : attributeBase a "_top" X.env (eval a X.env) = eval a X.env := by rfl) : PE X (.Attribute a "_top" pos) (TI G q.num s) :=
  pe_weak (pe_fld ha hab) fun σ H Q ⟨hg, h1, z⟩ => ⟨hg, h1, fun v H1 S1 nv => by
    obtain ⟨a, rfl, ⟨dx, e⟩, _⟩ := nv_true nv
    exact ⟨a, C, dx, _, _, rfl, e, T, hN, rf_top _ _, z H1 S1⟩⟩
theorem pI_fbot (T : Cls X.K C) (hN : NoAttr X.K C "_bottom") (ha : PE X a (TQ C G true n q s)) (hab : attributeBase a "_bottom" X.env (eval a X.env) = eval a X.env := by rfl) : PE X (.Attribute a "_bottom" pos) (TI G (q.den : Int) s) :=
  pe_weak (pe_fld ha hab) fun σ H Q ⟨hg, h1, z⟩ => ⟨hg, h1, fun v H1 S1 nv => by
    obtain ⟨a, rfl, ⟨dx, e⟩, _⟩ := nv_true nv
    exact ⟨a, C, dx, _, _, rfl, e, T, hN, rf_bot _ _, z H1 S1⟩⟩
theorem pI_abs {x : Str} (hg : Gl X x) (hm : X.mg x = none) (hv : bootBuiltins x = some (.builtin "abs")) (ha : PE X a (TI G i s)) (hn : x ≠ "__name__" := by decide) (hdb : (x == ("__debug__" : Str)) = false := by decide)
    (he : starEach (a :: []) X.env = (false, eval a X.env) :: starEach [] X.env := by rfl) (hpl : (backTo pos (starEach [] X.env)).any (·.1) = false := by rfl) : PE X (.Call (.Name x p1) [a] [] pos) (TI G (if i < 0 then -i else i) s) :=
  pe_weak (pe_callB call_abs hg hm hv (pa_cons ha pa_nil he) hn hdb he hpl) fun σ H Q ⟨hg, h1, z⟩ => ⟨hg, h1, fun H1 S1 => ⟨i, rfl, z H1 S1⟩⟩
/-- a call of an own def: of two fractions -/
theorem pq_call2 {l : Nat} {x : Str} {D : Addr} {fd : FuncData} {ps : List Str} {side : Rat → Rat → Prop} {f : Rat → Rat → Rat} {g : Nat → Nat → Nat} (F : FnOk X.prog X.w X.K X.mg X.base CX0 l D fd ps (sp2 C side f g)) (hr : Room l X.A) (hg : Gl X x) (hm : X.mg x = some (.ref D)) (hk : PySem.W.keepIn X.K (.ref D) = true) (hb : Binds X.K fd ps []) (hG : GS G)
    (ha : PE X a (TQ C G true n q s1)) (hb' : PE X b (TQ C G true m r s2)) (hdb : (x == ("__debug__" : Str)) = false := by decide)
    (he : starEach (a :: [b]) X.env = (false, eval a X.env) :: starEach [b] X.env := by rfl) (he2 : starEach (b :: []) X.env = (false, eval b X.env) :: starEach [] X.env := by rfl) (hpl : (backTo pos (starEach [b] X.env)).any (·.1) = false := by rfl) :
    PE X (.Call (.Name x p1) [a, b] [] pos) (TQ C G true (g n m) (f q r) (s1 ∧ s2 ∧ side q r ∧ g n m ≤ LIM)) :=
  pe_weak (pe_call (E := E0) F hr hg hm hk hb .nil pass0 (pa_cons ha (pa_cons hb' pa_nil he2) he) hdb he hpl) fun σ H Q ⟨hg, ⟨h1, h2, h3, h4⟩, z⟩ =>
    ⟨hg, h1, fun v H1 S1 nv => ⟨hG _ _ _ hg S1, h2, fun u H2 S2 nu => by
      obtain ⟨a, rfl, y⟩ := nv_true nv
      obtain ⟨b, rfl, y'⟩ := nv_true nu
      exact ⟨a, b, n, m, q, r, rfl, y.same S2, y', h3, h4, fun p H3 S3 rq => z _ H3 ((S1.trans S2).trans S3) rq.nv⟩⟩⟩
/-- .. of one -/
theorem pq_call1 {l : Nat} {x : Str} {D : Addr} {fd : FuncData} {ps : List Str} {sd : Rat → Prop} {f : Rat → Rat} (F : FnOk X.prog X.w X.K X.mg X.base CX0 l D fd ps (sp1 C sd f)) (hr : Room l X.A) (hg : Gl X x) (hm : X.mg x = some (.ref D)) (hk : PySem.W.keepIn X.K (.ref D) = true) (hb : Binds X.K fd ps [])
    (ha : PE X a (TQ C G true n q s1)) (hdb : (x == ("__debug__" : Str)) = false := by decide)
    (he : starEach (a :: []) X.env = (false, eval a X.env) :: starEach [] X.env := by rfl) (hpl : (backTo pos (starEach [] X.env)).any (·.1) = false := by rfl) :
    PE X (.Call (.Name x p1) [a] [] pos) (TQ C G true n (f q) (s1 ∧ sd q ∧ n ≤ LIM)) :=
  pe_weak (pe_call (E := E0) F hr hg hm hk hb .nil pass0 (pa_cons ha pa_nil he) hdb he hpl) fun σ H Q ⟨hg, ⟨h1, h2, h3⟩, z⟩ =>
    ⟨hg, h1, fun v H1 S1 nv => by
      obtain ⟨a, rfl, y⟩ := nv_true nv
      exact ⟨a, n, q, rfl, y, h2, h3, fun p H3 S3 rq => z _ H3 (S1.trans S3) rq.nv⟩⟩
/-- _as_ratio(e) -/
theorem pq_callA {l : Nat} {x : Str} {D : Addr} {fd : FuncData} {ps : List Str} (F : FnOk X.prog X.w X.K X.mg X.base CX0 l D fd ps (spAs C)) (hr : Room l X.A) (hg : Gl X x) (hm : X.mg x = some (.ref D)) (hk : PySem.W.keepIn X.K (.ref D) = true) (hb : Binds X.K fd ps [])
    (ha : PE X a (TQ C G k n q s1)) (hdb : (x == ("__debug__" : Str)) = false := by decide)
    (he : starEach (a :: []) X.env = (false, eval a X.env) :: starEach [] X.env := by rfl) (hpl : (backTo pos (starEach [] X.env)).any (·.1) = false := by rfl) :
    PE X (.Call (.Name x p1) [a] [] pos) (TQ C G true n q (s1 ∧ n ≤ LIM)) :=
  pe_weak (pe_call (E := E0) F hr hg hm hk hb .nil pass0 (pa_cons ha pa_nil he) hdb he hpl) fun σ H Q ⟨hg, ⟨h1, h2⟩, z⟩ =>
    ⟨hg, h1, fun v H1 S1 nv => ⟨v, k, n, q, rfl, nv, h2, fun p H3 S3 rq => z _ H3 (S1.trans S3) rq.nv⟩⟩
/-- is_number(e), e a number -/
theorem pb_num {l : Nat} {x : Str} {D : Addr} {fd : FuncData} {ps : List Str} (F : FnOk X.prog X.w X.K X.mg X.base CX0 l D fd ps (spIsN C)) (hr : Room l X.A) (hg : Gl X x) (hm : X.mg x = some (.ref D)) (hk : PySem.W.keepIn X.K (.ref D) = true) (hb : Binds X.K fd ps [])
    (ha : PE X a (TQ C G k n q s1)) (hdb : (x == ("__debug__" : Str)) = false := by decide)
    (he : starEach (a :: []) X.env = (false, eval a X.env) :: starEach [] X.env := by rfl) (hpl : (backTo pos (starEach [] X.env)).any (·.1) = false := by rfl) :
    PE X (.Call (.Name x p1) [a] [] pos) (TB G true s1) :=
  pe_weak (pe_call (E := E0) F hr hg hm hk hb .nil pass0 (pa_cons ha pa_nil he) hdb he hpl) fun σ H Q ⟨hg, h1, z⟩ =>
    ⟨hg, h1, fun v H1 S1 nv => ⟨v, rfl, by
      cases k with
      | true => obtain ⟨a, rfl, y⟩ := nv_true nv; exact .inr ⟨y.ins, z H1 S1⟩
      | false => obtain ⟨i, rfl, _⟩ := nv; exact .inl ⟨_, .int i, z H1 S1⟩⟩⟩
/-- return e -/
theorem qs_ret {C : Addr} {n : Nat} {q : Rat} {σ : L2.St} {H : Hp} {D : Ends} (hg : G σ H) (hs : s) (z : ∀ p H', Same H H' → RQ C H' p n q → D.rt (.ref p) H') : tRet (TQ C G true n q s) D σ H :=
  ⟨hg, hs, fun v H' S nv => by obtain ⟨a, rfl, y⟩ := nv_true nv; exact z a H' S y⟩
end
end SQ
namespace SQ
open PySem PySem.Spec PyProof.Rows L2 SF
section
variable {X : Cx} {C : Addr} {G : L2.St → Hp → Prop} {a b e : Expr} {k k1 k2 : Bool} {n m : Nat} {q r : Rat} {s s1 s2 : Prop} {pos p1 p2 : Pos} {i j : Int}
/-- Ratio(e): the bottom is 1 -/
theorem pq_make1 {l : Nat} {x : Str} {p : Addr} {fd : FuncData} {ds : List Value} (M : Mk X.K C p) (F : FnOk X.prog X.w X.K X.mg X.base CX0 l p fd ["self", "top", "bottom"] (spInit C)) (hb : Binds X.K fd ["self", "top", "bottom"] ds) (hd : Vals [V.int 1] ds) (hr : Room (l + 1) X.A) (hg : Gl X x) (hm : X.mg x = some (.ref C))
    (ha : PE X a (TI G i s1)) (hi : i.natAbs < 2 ^ n) (h0 : 0 < n) (hdb : (x == ("__debug__" : Str)) = false := by decide)
    (he : starEach (a :: []) X.env = (false, eval a X.env) :: starEach [] X.env := by rfl) (hpl : (backTo pos (starEach [] X.env)).any (·.1) = false := by rfl) :
    PE X (.Call (.Name x p1) [a] [] pos) (TQ C G true n (i : Rat) (s1 ∧ n ≤ LIM)) :=
  pe_weak (pe_make (E := E0) M F hr hg hm hb hd pass0 (pa_cons ha pa_nil he) hdb he hpl) fun σ H Q ⟨hg, ⟨h1, h4⟩, z⟩ =>
    ⟨hg, h1, fun H1 S1 x dx hx hd hn => mk_fin hx hd hn (by decide) hi (Nat.one_lt_two_pow (by omega)) h4 fun H3 S3 rq => ⟨rfl, z _ H3 (S1.trans S3) (by rw [int_is] at rq; exact rq.nv)⟩⟩
end
theorem inv_pow (q : Rat) : ∀ n : Nat, (q⁻¹) ^ n = (q ^ n)⁻¹
  | 0 => by rw [Rat.pow_zero, Rat.pow_zero]; exact (Rat.inv_eq_of_mul_eq_one (by simp)).symm
  | n + 1 => by rw [Rat.pow_succ, Rat.pow_succ, inv_pow q n, Rat.inv_mul_rev, Rat.mul_comm]
theorem zpow_pos_is (q : Rat) {e : Int} (h : 0 ≤ e) : q ^ e.natAbs = q ^ e := by
  obtain ⟨n, rfl⟩ := Int.eq_ofNat_of_zero_le h
  exact (Rat.zpow_natCast q n).symm
theorem zpow_neg_is (q : Rat) {e : Int} (h : e < 0) : (q⁻¹) ^ e.natAbs = q ^ e := by
  obtain ⟨n, hn⟩ := Int.eq_ofNat_of_zero_le (show 0 ≤ -e by omega)
  have e1 : e = -(n : Int) := by omega
  rw [e1, Rat.zpow_neg, Int.natAbs_neg, inv_pow]
  rfl
end SQ

/-! The texts of numbers and fractions. -/
namespace SQ
open PySem PySem.Spec PyProof.Rows L2 SF TL
theorem tx_nat (n : Nat) : tl (tx (n : Int)) = numL n := tl_num n
theorem tx_neg (n : Nat) : tl (tx (-((n + 1 : Nat) : Int))) = 45 :: numL (n + 1) := by
  have e : (-((n + 1 : Nat) : Int)) = Int.negSucc n := rfl
  have e2 : toString (Int.negSucc n) = "-" ++ toString (n + 1) := rfl
  rw [e]
  show tl (Str.ofString (toString (Int.negSucc n))) = _
  rw [e2, tl_ofString]
  have e3 : ("-" ++ toString (n + 1)).toList = '-' :: (toString (n + 1)).toList := by simp
  rw [e3, List.map_cons]
  have e4 := tl_num (n + 1)
  rw [tl_ofString] at e4
  have e5 : (toString ((n + 1 : Nat) : Int)) = toString (n + 1) := rfl
  rw [e5] at e4
  rw [e4]
  rfl
theorem numL_head {n : Nat} (h : 0 < n) : ∃ c l, numL n = c :: l ∧ c ≠ 48 ∧ 48 ≤ c ∧ c ≤ 57 := by
  induction n using Nat.strongRecOn with
  | _ n ih =>
    by_cases h1 : n < 10
    · exact ⟨_, _, numL_lt h1, by omega, by omega, by omega⟩
    · obtain ⟨c, l, e, h2, h3⟩ := ih (n / 10) (by omega) (by omega)
      rw [numL_step (by omega), e]
      exact ⟨c, _, rfl, h2, h3⟩
theorem tx_cases (i : Int) : (∃ n : Nat, i = n ∧ tl (tx i) = numL n) ∨ (∃ n : Nat, 0 < n ∧ i = -(n : Int) ∧ tl (tx i) = 45 :: numL n) := by
  by_cases h : i < 0
  · obtain ⟨n, hn⟩ := Int.eq_ofNat_of_zero_le (show 0 ≤ -i - 1 by omega)
    refine .inr ⟨n + 1, by omega, by omega, ?_⟩
    have : i = -((n + 1 : Nat) : Int) := by omega
    rw [this]
    exact tx_neg n
  · obtain ⟨n, rfl⟩ := Int.eq_ofNat_of_zero_le (show 0 ≤ i by omega)
    exact .inl ⟨n, rfl, tx_nat n⟩
theorem tx_free {i : Int} {s : Nat} (h : s < 45 ∨ 57 < s ∨ s = 46 ∨ s = 47) : s ∉ tl (tx i) := by
  rcases tx_cases i with ⟨n, _, e⟩ | ⟨n, _, _, e⟩
  · rw [e]; exact numL_free (by omega)
  · rw [e]
    intro z
    rcases List.mem_cons.mp z with z | z
    · omega
    · exact numL_free (by omega) z
theorem tx_inj {i j : Int} (h : tx i = tx j) : i = j := by
  have h : tl (tx i) = tl (tx j) := by rw [h]
  have no : ∀ {n m : Nat}, numL n = 45 :: numL m → False := fun {n m} e => by
    have : (45 : Nat) ∈ numL n := by rw [e]; exact List.mem_cons_self
    exact numL_free (by omega) this
  rcases tx_cases i with ⟨n, rfl, e⟩ | ⟨n, _, rfl, e⟩ <;> rcases tx_cases j with ⟨m, rfl, f⟩ | ⟨m, _, rfl, f⟩ <;> rw [e, f] at h
  · rw [numL_inj h]
  · exact (no h).elim
  · exact (no h.symm).elim
  · injection h with _ h
    rw [numL_inj h]
theorem int_tx {i : Int} (h : (tx i).length ≤ 4300) : intText? (tx i) = some i := by
  rcases tx_cases i with ⟨n, rfl, e⟩ | ⟨n, _, rfl, e⟩
  · have l : (numL n).length ≤ 4300 := by rw [← e, ← len_tl]; exact h
    exact int_num l
  · have := intText_neg (x := tx (-(n : Int))) e (numL_digits n) (numL_ne n) h
    rw [this, numL_val]
/-- two pieces around a sign that stands in neither first piece -/
theorem split_inj {c : Nat} : ∀ {u u' v v' : List Nat}, c ∉ u → c ∉ u' → u ++ c :: v = u' ++ c :: v' → u = u' ∧ v = v'
  | [], [], _, _, _, _, h => ⟨rfl, by simpa using h⟩
  | [], x :: u', v, v', _, h2, h => by
    simp only [List.nil_append, List.cons_append, List.cons.injEq] at h
    exact absurd (by rw [h.1]; exact List.mem_cons_self) h2
  | x :: u, [], v, v', h1, _, h => by
    simp only [List.nil_append, List.cons_append, List.cons.injEq] at h
    exact absurd (by rw [h.1]; exact List.mem_cons_self) h1
  | x :: u, y :: u', v, v', h1, h2, h => by
    simp only [List.cons_append, List.cons.injEq] at h
    obtain ⟨a, b⟩ := split_inj (c := c) (u := u) (u' := u') (fun z => h1 (List.mem_cons_of_mem _ z)) (fun z => h2 (List.mem_cons_of_mem _ z)) h.2
    exact ⟨by rw [h.1, a], b⟩
theorem tl_empty : tl Str.empty = [] := rfl
theorem rrepr_tl (q : Rat) : tl (rrepr q) = tl ("Ratio(" : Str) ++ (tl (tx q.num) ++ 44 :: (32 :: (tl (tx q.den) ++ [41]))) := by
  unfold rrepr
  simp only [tl_append, tl_empty]
  have e1 : tl (", " : Str) = [44, 32] := rfl
  have e2 : tl (")" : Str) = [41] := rfl
  rw [e1, e2]
  simp [List.append_assoc]
theorem rrepr_inj {q r : Rat} : decide (rrepr q = rrepr r) = decide (q = r) := by
  by_cases h : q = r
  · rw [h]; simp
  · rw [decide_eq_false h]
    refine decide_eq_false fun z => h ?_
    have e : tl (rrepr q) = tl (rrepr r) := by rw [z]
    rw [rrepr_tl, rrepr_tl] at e
    have e := List.append_cancel_left e
    obtain ⟨a, b⟩ := split_inj (tx_free (by omega)) (tx_free (by omega)) e
    simp only [List.cons.injEq, true_and] at b
    obtain ⟨b, _⟩ := split_inj (tx_free (by omega)) (tx_free (by omega)) b
    have e1 := tx_inj (ext_tl a)
    have e2 := tx_inj (ext_tl b)
    exact Rat.ext e1 (by omega)
theorem rstr_tl (q : Rat) : tl (rstr q) = if q.den = 1 then tl (tx q.num) else tl (tx q.num) ++ 47 :: tl (tx q.den) := by
  unfold rstr
  split
  · rfl
  · simp only [tl_append, tl_empty]
    have e1 : tl ("/" : Str) = [47] := rfl
    rw [e1]
    simp [List.append_assoc]
theorem rstr_inj {q r : Rat} : decide (rstr q = rstr r) = decide (q = r) := by
  by_cases h : q = r
  · rw [h]; simp
  · rw [decide_eq_false h]
    refine decide_eq_false fun z => h ?_
    have e : tl (rstr q) = tl (rstr r) := by rw [z]
    rw [rstr_tl, rstr_tl] at e
    have no : ∀ {i j k : Int}, tl (tx i) = tl (tx j) ++ 47 :: tl (tx k) → False := fun {i j k} e => by
      have : (47 : Nat) ∈ tl (tx i) := by rw [e]; simp
      exact tx_free (by omega) this
    split at e <;> split at e
    · exact Rat.ext (tx_inj (ext_tl e)) (by omega)
    · exact (no e).elim
    · exact (no e.symm).elim
    · obtain ⟨a, b⟩ := split_inj (tx_free (by omega)) (tx_free (by omega)) e
      have e1 := tx_inj (ext_tl a)
      have e2 := tx_inj (ext_tl b)
      exact Rat.ext e1 (by omega)

/-! ### what the program takes for a text of a fraction -/
def posT (x : Str) : Bool := Txt.isascii x && (Txt.isdigit x && !decide ((tl x).head? = some 48))
def iv (x : Str) : Int := (intText? x).getD 0
def isTx (x : Str) : Bool :=
  (decide ((Txt.partition x "/").1 = ("0" : Str)) || posT (Txt.removeprefix (Txt.partition x "/").1 "-")) &&
  (decide ((Txt.partition x "/").2.1 = ("" : Str)) || (posT (Txt.partition x "/").2.2 && (!decide ((Txt.partition x "/").2.2 = ("1" : Str)) && decide (gI (iv (Txt.partition x "/").1) (iv (Txt.partition x "/").2.2) = 1))))
theorem dig_uni : ∀ c : Nat, 48 ≤ c → c ≤ 57 → Unicode.isDigit c = true := by
  intro c h1 h2
  have : ∀ d : Fin 10, Unicode.isDigit (48 + d.val) = true := by decide +kernel
  have e := this ⟨c - 48, by omega⟩
  have e2 : 48 + (c - 48) = c := by omega
  simpa [e2] using e
theorem posT_num {n : Nat} (h : 0 < n) {x : Str} (hx : tl x = numL n) : posT x = true := by
  obtain ⟨c, l, e, h1, _⟩ := numL_head h
  have hd := numL_digits n
  unfold posT Txt.isascii Txt.isdigit
  have all : ∀ {p : Nat → Bool}, (∀ c, 48 ≤ c → c ≤ 57 → p c = true) → x.cps.all p = true := fun {p} hp => by
    rw [← Array.all_toList]
    show (tl x).all p = true
    rw [hx, List.all_eq_true]
    intro c hc
    have := hd c hc
    exact hp c (by omega) (by omega)
  rw [all (fun c _ _ => by simp; omega), all (fun c a b => dig_uni c a b), len_tl, hx, e]
  simp [h1]
theorem subAt0 (x : Str) : Builtin.Str.subAt x "-" 0 = decide ((tl x).head? = some 45) := by
  have e : Builtin.Str.subAt x "-" 0 = (x.cps.extract 0 1 == #[45]) := rfl
  rw [e, Bool.eq_iff_iff]
  constructor
  · intro h
    have h1 := congrArg Array.toList (eq_of_beq h)
    rw [Array.toList_extract] at h1
    have h2 : (tl x).take 1 = [45] := by simpa [List.extract] using h1
    cases hx : tl x with
    | nil => rw [hx] at h2; cases h2
    | cons c l => rw [hx] at h2; simp at h2; simp [h2]
  · intro h
    have h := of_decide_eq_true h
    have h1 : x.cps.extract 0 1 = #[45] := by
      apply Array.toList_inj.mp
      rw [Array.toList_extract]
      show List.extract (tl x) 0 1 = [45]
      cases hx : tl x with
      | nil => rw [hx] at h; cases h
      | cons c l => rw [hx] at h; simp at h; simp [List.extract, h]
    rw [h1]
    rfl
theorem rp_neg {x : Str} {l : List Nat} (h : tl x = 45 :: l) : tl (Txt.removeprefix x "-") = l := by
  have hl : x.length = l.length + 1 := by rw [len_tl, h]; rfl
  have s1 : ("-" : Str).length = 1 := rfl
  rw [StrLaws.removeprefix_eq, subAt0, h, s1, hl]
  rw [if_pos (by simp)]
  show ((x.cps.toList.drop 1).take (l.length + 1 - 1)) = l
  rw [show x.cps.toList = 45 :: l from h]
  simp
theorem rp_same {x : Str} (h : (tl x).head? ≠ some 45) : Txt.removeprefix x "-" = x := by
  rw [StrLaws.removeprefix_eq, subAt0, decide_eq_false h, Bool.and_false, if_neg (by simp)]
theorem rp_tx {i : Int} (h : i ≠ 0) : posT (Txt.removeprefix (tx i) "-") = true := by
  rcases tx_cases i with ⟨n, rfl, e⟩ | ⟨n, hn, rfl, e⟩
  · obtain ⟨c, l, e2, _, h1, h2⟩ := numL_head (n := n) (by omega)
    rw [rp_same (by rw [e, e2]; simp; omega)]
    exact posT_num (by omega) e
  · exact posT_num hn (rp_neg e)
theorem tx_zero : tx 0 = ("0" : Str) := rfl
theorem tx_one : tx 1 = ("1" : Str) := rfl
theorem part1 (i : Int) : Txt.partition (tx i) "/" = (tx i, Str.empty, Str.empty) := partition_none (y := "/") (s := 47) (S := []) rfl (tx_free (by omega))
theorem part2 (i j : Int) : Txt.partition (((Str.empty ++ tx i) ++ ("/" : Str)) ++ tx j) "/" = (tx i, ("/" : Str), tx j) := by
  have e : Str.empty ++ tx i = tx i := ext_tl (by rw [tl_append]; rfl)
  rw [e]
  exact partition_app (y := "/") (s := 47) (S := []) rfl (tx_free (by omega))
theorem cop_gI (q : Rat) : gI q.num q.den = 1 := by
  unfold gI
  have := q.reduced
  unfold Nat.Coprime at this
  rw [show ((q.den : Int)).natAbs = q.den from rfl, this]
  rfl
theorem a_ok (i : Int) : (decide (tx i = ("0" : Str)) || posT (Txt.removeprefix (tx i) "-")) = true := by
  by_cases h : i = 0
  · subst h; rw [tx_zero]; simp
  · rw [rp_tx h, Bool.or_true]
theorem isTx_rstr (q : Rat) (h1 : (tx q.num).length ≤ 4300) (h2 : (tx q.den).length ≤ 4300) : isTx (rstr q) = true := by
  unfold rstr
  by_cases h : q.den = 1
  · rw [if_pos h]
    unfold isTx
    rw [part1]
    dsimp only
    rw [a_ok]
    have e : decide (Str.empty = ("" : Str)) = true := rfl
    rw [e]
    rfl
  · rw [if_neg h]
    unfold isTx
    rw [part2]
    dsimp only
    have hd : 0 < q.den := Nat.pos_of_ne_zero q.den_nz
    have e1 : posT (tx (q.den : Int)) = true := posT_num hd (tx_nat q.den)
    have e2 : decide (tx (q.den : Int) = ("1" : Str)) = false := decide_eq_false fun z => h (by have := tx_inj (i := q.den) (j := 1) (z.trans tx_one.symm); omega)
    have e3 : iv (tx q.num) = q.num := by unfold iv; rw [int_tx h1]; rfl
    have e4 : iv (tx (q.den : Int)) = q.den := by unfold iv; rw [int_tx h2]; rfl
    rw [a_ok, e1, e2, e3, e4, cop_gI]
    simp

theorem dig_ascii : ∀ c : Nat, c < 128 → Unicode.isDigit c = true → 48 ≤ c ∧ c ≤ 57 := by
  intro c h1 h2
  have : ∀ d : Fin 128, Unicode.isDigit d.val = true → 48 ≤ d.val ∧ d.val ≤ 57 := by decide +kernel
  exact this ⟨c, h1⟩ h2
theorem posT_digits {x : Str} (h : posT x = true) : NumText.AllDigits (tl x) ∧ tl x ≠ [] := by
  unfold posT at h
  obtain ⟨h1, h⟩ := Bool.and_eq_true_iff.mp h
  obtain ⟨h2, _⟩ := Bool.and_eq_true_iff.mp h
  unfold Txt.isascii at h1
  unfold Txt.isdigit at h2
  obtain ⟨h3, h2⟩ := Bool.and_eq_true_iff.mp h2
  rw [← Array.all_toList] at h1 h2
  refine ⟨fun c hc => ?_, fun e => ?_⟩
  · have a := List.all_eq_true.mp h1 c hc
    have b := List.all_eq_true.mp h2 c hc
    have := dig_ascii c (by simpa using a) b
    exact this
  · have := of_decide_eq_true h3
    rw [len_tl, e] at this
    exact absurd this (by simp)
theorem int_digits {x : Str} (h : NumText.AllDigits (tl x)) (h1 : tl x ≠ []) (h2 : x.length ≤ 4300) : intText? x = some ((NumText.digitsVal (tl x) : Nat) : Int) := intText_digits h h1 h2
theorem iv_pos {x : Str} (h : posT x = true) (hl : x.length ≤ 4300) : intText? x = some (iv x) := by
  obtain ⟨a, b⟩ := posT_digits h
  unfold iv
  rw [int_digits a b hl]
  rfl
theorem iv_top {x : Str} (h : (decide (x = ("0" : Str)) || posT (Txt.removeprefix x "-")) = true) (hl : x.length ≤ 4300) : intText? x = some (iv x) := by
  rcases Bool.or_eq_true_iff.mp h with h | h
  · rw [of_decide_eq_true h]
    have : intText? ("0" : Str) = some 0 := by have := int_tx (i := 0) (by rw [tx_zero]; decide); rwa [tx_zero] at this
    unfold iv
    rw [this]
    rfl
  · obtain ⟨a, b⟩ := posT_digits h
    by_cases hx : (tl x).head? = some 45
    · cases e : tl x with
      | nil => rw [e] at hx; cases hx
      | cons c l =>
        rw [e] at hx
        simp at hx
        subst hx
        rw [rp_neg e] at a b
        unfold iv
        rw [intText_neg e a b hl]
        rfl
    · rw [rp_same hx] at a b
      unfold iv
      rw [int_digits a b hl]
      rfl
theorem split_at (c : Nat) : ∀ l : List Nat, c ∉ l ∨ ∃ a b, l = a ++ c :: b ∧ c ∉ a
  | [] => .inl (by simp)
  | x :: l => by
    by_cases h : x = c
    · subst h; exact .inr ⟨[], l, rfl, by simp⟩
    · rcases split_at c l with h1 | ⟨a, b, e, h1⟩
      · exact .inl (by simp [h1]; exact fun z => h z.symm)
      · exact .inr ⟨x :: a, b, by rw [e]; rfl, by simp [h1]; exact fun z => h z.symm⟩
theorem part_len (x : Str) : (Txt.partition x "/").1.length ≤ x.length ∧ (Txt.partition x "/").2.2.length ≤ x.length := by
  rcases split_at 47 (tl x) with h | ⟨a, b, e, h⟩
  · rw [partition_none (y := "/") (s := 47) (S := []) rfl h]
    exact ⟨Nat.le_refl _, Nat.zero_le _⟩
  · have e2 : x = ((⟨a.toArray⟩ : Str) ++ ("/" : Str)) ++ (⟨b.toArray⟩ : Str) := ext_tl (by
      rw [tl_append, tl_append]
      refine e.trans ?_
      have : tl ("/" : Str) = [47] := rfl
      rw [this]
      show _ = a ++ [47] ++ b
      simp)
    rw [e2, partition_app (y := "/") (s := 47) (S := []) rfl h]
    simp only [Str.length_append]
    omega
/-- a value of so many digits -/
theorem val_lt : ∀ (l : List Nat) (a : Nat), NumText.AllDigits l → l.foldl (fun acc c => acc * 10 + (c - 48)) a < (a + 1) * 10 ^ l.length
  | [], a, _ => by simp
  | c :: l, a, h => by
    have hc := h.head
    rw [List.foldl_cons, List.length_cons]
    refine Nat.lt_of_lt_of_le (val_lt l _ h.tail) ?_
    rw [Nat.pow_succ, ← Nat.mul_assoc, Nat.mul_right_comm]
    exact Nat.mul_le_mul_right _ (by omega)
theorem digits_lt {l : List Nat} (h : NumText.AllDigits l) : NumText.digitsVal l < 10 ^ l.length := by
  have := val_lt l 0 h
  rw [Nat.zero_add, Nat.one_mul] at this
  exact this
def RDN : Nat := 2200
theorem ten_lt {k : Nat} (h : k ≤ 640) : 10 ^ k < 2 ^ RDN := by
  refine Nat.lt_of_le_of_lt (Nat.pow_le_pow_right (by decide) h) ?_
  decide +kernel
theorem iv_lt {x : Str} (h : (decide (x = ("0" : Str)) || posT (Txt.removeprefix x "-")) = true) (hl : x.length ≤ 640) : (iv x).natAbs < 2 ^ RDN := by
  have hi := iv_top h (Nat.le_trans hl (by decide))
  rcases Bool.or_eq_true_iff.mp h with h | h
  · have : iv x = 0 := by
      rw [of_decide_eq_true h]
      have : intText? ("0" : Str) = some 0 := by have := int_tx (i := 0) (by rw [tx_zero]; decide); rwa [tx_zero] at this
      unfold iv
      rw [this]
      rfl
    rw [this]
    exact Nat.two_pow_pos _
  · obtain ⟨a, b⟩ := posT_digits h
    by_cases hx : (tl x).head? = some 45
    · cases e : tl x with
      | nil => rw [e] at hx; cases hx
      | cons c l =>
        rw [e] at hx
        simp at hx
        subst hx
        rw [rp_neg e] at a b
        have hv := intText_neg e a b (Nat.le_trans hl (by decide))
        rw [hi] at hv
        rw [Option.some.inj hv, Int.natAbs_neg]
        have len : l.length ≤ 640 := by rw [len_tl, e] at hl; simp at hl; omega
        exact Nat.lt_of_lt_of_le (digits_lt a) (Nat.le_of_lt (ten_lt len))
    · rw [rp_same hx] at a b
      have hv := int_digits a b (Nat.le_trans hl (by decide))
      rw [hi] at hv
      rw [Option.some.inj hv]
      rw [len_tl] at hl
      exact Nat.lt_of_lt_of_le (digits_lt a) (Nat.le_of_lt (ten_lt hl))
theorem ivp_lt {x : Str} (h : posT x = true) (hl : x.length ≤ 640) : (iv x).natAbs < 2 ^ RDN := by
  have hi := iv_pos h (Nat.le_trans hl (by decide))
  obtain ⟨a, b⟩ := posT_digits h
  have hv := int_digits a b (Nat.le_trans hl (by decide))
  rw [hi] at hv
  rw [Option.some.inj hv]
  rw [len_tl] at hl
  exact Nat.lt_of_lt_of_le (digits_lt a) (Nat.le_of_lt (ten_lt hl))
theorem ivp_ne {x : Str} (h : posT x = true) (hl : x.length ≤ 640) : iv x ≠ 0 := by
  have hi := iv_pos h (Nat.le_trans hl (by decide))
  obtain ⟨a, b⟩ := posT_digits h
  have hv := int_digits a b (Nat.le_trans hl (by decide))
  rw [hi] at hv
  rw [Option.some.inj hv]
  unfold posT at h
  obtain ⟨_, h⟩ := Bool.and_eq_true_iff.mp h
  obtain ⟨_, h⟩ := Bool.and_eq_true_iff.mp h
  cases e : tl x with
  | nil => exact absurd e b
  | cons c l =>
    rw [e] at h a
    have hc := a c List.mem_cons_self
    have hn : c ≠ 48 := fun z => by subst z; simp at h
    have := NumText.digitsVal_pos (c := c) (cs := l) (by omega)
    omega
/-- the fraction that a text tells -/
def rdq (x : Str) : Rat := if (Txt.partition x "/").2.1 = ("" : Str) then (iv (Txt.partition x "/").1 : Rat) else Rat.divInt (iv (Txt.partition x "/").1) (iv (Txt.partition x "/").2.2)
theorem rdq_rstr (q : Rat) (h1 : (tx q.num).length ≤ 4300) (h2 : (tx q.den).length ≤ 4300) : rdq (rstr q) = q := by
  have e3 : iv (tx q.num) = q.num := by unfold iv; rw [int_tx h1]; rfl
  have e4 : iv (tx (q.den : Int)) = q.den := by unfold iv; rw [int_tx h2]; rfl
  unfold rstr
  by_cases h : q.den = 1
  · rw [if_pos h]
    unfold rdq
    rw [part1]
    dsimp only
    rw [if_pos (show Str.empty = ("" : Str) from rfl), e3]
    exact Rat.ext rfl (by show 1 = q.den; omega)
  · rw [if_neg h]
    unfold rdq
    rw [part2]
    dsimp only
    rw [if_neg (by decide), e3, e4, Rat.num_divInt_den]
def spIsP : Sp := fun vs H Q _ => ∃ x : Str, vs = [.str x] ∧ x.length ≤ 640 ∧ Q (.bl (posT x)) H
def spIsT : Sp := fun vs H Q _ => ∃ x : Str, vs = [.str x] ∧ x.length ≤ 640 ∧ ∀ H', Same H H' → Q (.bl (isTx x)) H'
def spRd (C : Addr) : Sp := fun vs H Q _ => ∃ x : Str, vs = [.ref C, .str x] ∧ x.length ≤ 640 ∧ isTx x = true ∧ ∀ p H', Same H H' → RQ C H' p RDN (rdq x) → Q (.ref p) H'
/-- c(..), c a local name that holds the class -/
def tMakeL (i : Nat) (C : Addr) (sp : Sp) (dvs : List V) (E : XK) (t : TA) : TE := fun σ H Q => σ[i]? = some (some (.ref C)) ∧ tMake C sp dvs E t σ H Q
section
variable {X : Cx} {CX : CXT} {k i : Nat} {C f : Addr} {fd : FuncData} {ps : List Str} {sp : Sp} {dvs : List V} {ds : List Value} {E : XK} {x : Str} {p pos : Pos} {e : Expr} {es : List Expr} {t : TA}
theorem pe_makeL (M : Mk X.K C f) (F : FnOk X.prog X.w X.K X.mg X.base CX k f fd ps sp) (hr : Room (k + 1) X.A) (hN : X.N[i]? = some x) (hv : Vis X.env.scope x) (hb : Binds X.K fd ps ds) (hd : Vals dvs ds) (hx : Passes CX X E) (ha : PA X (e :: es) t)
    (hdb : (x == ("__debug__" : Str)) = false := by decide) (hcd : (x == ("__classdict__" : Str)) = false := by decide)
    (he : starEach (e :: es) X.env = (false, eval e X.env) :: starEach es X.env := by rfl) (hpl : (backTo pos (starEach es X.env)).any (·.1) = false := by rfl) : PE X (.Call (.Name x p) (e :: es) [] pos) (tMakeL i C sp dvs E t) := by
  refine ⟨fun pins s σ H Q I h => ?_⟩
  obtain ⟨hs, ht⟩ := h
  refine wpAny_Call_Name_kw (thn ((pe_var (pos := p) hN hv hdb hcd).run pins s σ H (fun v H1 => v = .ref C ∧ H1 = H) I ⟨.ref C, hs, rfl, rfl⟩) fun u s1 ⟨v, H1, I1, r1, q1⟩ => ?_)
  obtain ⟨rfl, rfl⟩ := q1
  cases r1
  refine PySem.W.callWith_K (h₀ := X.base) I.ok.mod.kin M.kp (thn (ha.run pos pins s1 σ _ _ I1 ht) fun us s2 ⟨vs, H2, I2, r, q⟩ => ⟨I2.kIn, ?_⟩) he hpl
  exact run_make M F hr hb hd hx I2 r q
end
end SQ

/-! Comparisons as tests. Rational numbers: what the laws ask. -/
namespace SQ
open PySem PySem.Spec PyProof.Rows L2 SF
section
variable {X : Cx} {C : Addr} {G : L2.St → Hp → Prop} {a b e : Expr} {k k1 k2 : Bool} {n m : Nat} {q r : Rat} {s s1 s2 : Prop} {pos p1 p2 : Pos}
theorem pq_cmpT {op : CmpOp} {f : Rat → Rat → Bool} (ho : OpR X (compareOp op) (rQe C k2 f)) (hG : GS G) (hm : behindInMarks op b = false) (ha : PE X a (TQ C G true n q s1)) (hb : PE X b (TQ C G k2 m r s2)) :
    PT X (.Compare a [op] [b] pos) (TBt G (f q r) (s1 ∧ s2)) :=
  pt_weak (pt_cmpR ho ha hb hm) fun σ H Q ⟨hg, ⟨h1, h2⟩, z⟩ =>
    ⟨hg, h1, fun v H1 S1 nv => ⟨hG _ _ _ hg S1, h2, fun u H2 S2 nu => ⟨n, m, q, r, nv.same S2, nu, ⟨_, rfl, z H2 (S1.trans S2)⟩⟩⟩⟩
theorem pb_eqT {b1 b2 : Bool} (hG : GS G) (hm : behindInMarks .Eq b = false) (ha : PE X a (TB G b1 s1)) (hb : PE X b (TB G b2 s2)) : PT X (.Compare a [.Eq] [b] pos) (TBt G (decide (b1 = b2)) (s1 ∧ s2)) :=
  pt_weak (pt_cmpR op_eq ha hb hm) fun σ H Q ⟨hg, ⟨h1, h2⟩, z⟩ => ⟨hg, h1, fun H1 S1 => ⟨hG _ _ _ hg S1, h2, fun H2 S2 => ⟨rfl, by
    rw [show decide (V.bl b1 = V.bl b2) = decide (b1 = b2) by cases b1 <;> cases b2 <;> rfl]; exact ⟨_, rfl, z H2 (S1.trans S2)⟩⟩⟩⟩
theorem pb_neT {b1 b2 : Bool} (hG : GS G) (hm : behindInMarks .NotEq b = false) (ha : PE X a (TB G b1 s1)) (hb : PE X b (TB G b2 s2)) : PT X (.Compare a [.NotEq] [b] pos) (TBt G (!decide (b1 = b2)) (s1 ∧ s2)) :=
  pt_weak (pt_cmpR op_ne ha hb hm) fun σ H Q ⟨hg, ⟨h1, h2⟩, z⟩ => ⟨hg, h1, fun H1 S1 => ⟨hG _ _ _ hg S1, h2, fun H2 S2 => ⟨rfl, by
    rw [show decide (V.bl b1 = V.bl b2) = decide (b1 = b2) by cases b1 <;> cases b2 <;> rfl]; exact ⟨_, rfl, z H2 (S1.trans S2)⟩⟩⟩⟩
theorem pS_eqT {x y : Str} (hG : GS G) (hm : behindInMarks .Eq b = false) (ha : PE X a (TS G x s1)) (hb : PE X b (TS G y s2)) : PT X (.Compare a [.Eq] [b] pos) (TBt G (decide (x = y)) (s1 ∧ s2)) :=
  pt_weak (pt_cmpR op_eq ha hb hm) fun σ H Q ⟨hg, ⟨h1, h2⟩, z⟩ => ⟨hg, h1, fun H1 S1 => ⟨hG _ _ _ hg S1, h2, fun H2 S2 => ⟨rfl, by
    have e : decide (V.str x = V.str y) = decide (x = y) := by
      by_cases h : x = y
      · rw [h]; simp
      · rw [decide_eq_false h, decide_eq_false (fun z => h (V.str.inj z))]
    rw [e]; exact ⟨_, rfl, z H2 (S1.trans S2)⟩⟩⟩⟩
theorem pI_eqT {i j : Int} (hG : GS G) (hm : behindInMarks .Eq b = false) (ha : PE X a (TI G i s1)) (hb : PE X b (TI G j s2)) : PT X (.Compare a [.Eq] [b] pos) (TBt G (decide (i = j)) (s1 ∧ s2)) :=
  pt_weak (pt_cmpR op_eq ha hb hm) fun σ H Q ⟨hg, ⟨h1, h2⟩, z⟩ => ⟨hg, h1, fun H1 S1 => ⟨hG _ _ _ hg S1, h2, fun H2 S2 => ⟨rfl, by rw [dint]; exact ⟨_, rfl, z H2 (S1.trans S2)⟩⟩⟩⟩
theorem pI_neT {i j : Int} (hG : GS G) (hm : behindInMarks .NotEq b = false) (ha : PE X a (TI G i s1)) (hb : PE X b (TI G j s2)) : PT X (.Compare a [.NotEq] [b] pos) (TBt G (!decide (i = j)) (s1 ∧ s2)) :=
  pt_weak (pt_cmpR op_ne ha hb hm) fun σ H Q ⟨hg, ⟨h1, h2⟩, z⟩ => ⟨hg, h1, fun H1 S1 => ⟨hG _ _ _ hg S1, h2, fun H2 S2 => ⟨rfl, by rw [dint]; exact ⟨_, rfl, z H2 (S1.trans S2)⟩⟩⟩⟩
theorem pI_leT {i j : Int} (hG : GS G) (hm : behindInMarks .LtE b = false) (ha : PE X a (TI G i s1)) (hb : PE X b (TI G j s2)) : PT X (.Compare a [.LtE] [b] pos) (TBt G (decide (i ≤ j)) (s1 ∧ s2)) :=
  pt_weak (pt_cmpR op_le ha hb hm) fun σ H Q ⟨hg, ⟨h1, h2⟩, z⟩ => ⟨hg, h1, fun H1 S1 => ⟨hG _ _ _ hg S1, h2, fun H2 S2 => ⟨_, _, rfl, rfl, ⟨_, rfl, z H2 (S1.trans S2)⟩⟩⟩⟩
theorem pI_gtT {i j : Int} (hG : GS G) (hm : behindInMarks .Gt b = false) (ha : PE X a (TI G i s1)) (hb : PE X b (TI G j s2)) : PT X (.Compare a [.Gt] [b] pos) (TBt G (decide (i > j)) (s1 ∧ s2)) :=
  pt_weak (pt_cmpR op_gt ha hb hm) fun σ H Q ⟨hg, ⟨h1, h2⟩, z⟩ => ⟨hg, h1, fun H1 S1 => ⟨hG _ _ _ hg S1, h2, fun H2 S2 => ⟨_, _, rfl, rfl, ⟨_, rfl, z H2 (S1.trans S2)⟩⟩⟩⟩
end
end SQ
namespace SQ
theorem rat_pow_add (q : Rat) (m : Nat) : ∀ n : Nat, q ^ (m + n) = q ^ m * q ^ n
  | 0 => by rw [Nat.add_zero, Rat.pow_zero, Rat.mul_one]
  | n + 1 => by rw [← Nat.add_assoc, Rat.pow_succ, rat_pow_add q m n, Rat.pow_succ, Rat.mul_assoc]
theorem rat_zpow_add {q : Rat} {i j : Int} (h : q ≠ 0 ∨ (0 ≤ i ∧ 0 ≤ j)) : q ^ i * q ^ j = q ^ (i + j) := by
  rcases h with h | ⟨hi, hj⟩
  · exact (Rat.zpow_add h i j).symm
  · obtain ⟨m, rfl⟩ := Int.eq_ofNat_of_zero_le hi
    obtain ⟨n, rfl⟩ := Int.eq_ofNat_of_zero_le hj
    have e : ((m : Int) + (n : Int)) = ((m + n : Nat) : Int) := by omega
    rw [e, Rat.zpow_natCast, Rat.zpow_natCast, Rat.zpow_natCast, rat_pow_add]
theorem zpow1 (q : Rat) : q ^ (1 : Int) = q := Rat.zpow_one q
theorem zpow0 (q : Rat) : q ^ (0 : Int) = 1 := Rat.zpow_zero q
theorem zpow2 (q : Rat) : q ^ (2 : Int) = q * q := by
  show q ^ ((2 : Nat) : Int) = _
  rw [Rat.zpow_natCast, Rat.pow_succ, Rat.pow_one]
theorem zpow3 (q : Rat) : q ^ (3 : Int) = q * q * q := by
  show q ^ ((3 : Nat) : Int) = _
  rw [Rat.zpow_natCast, Rat.pow_succ, Rat.pow_succ, Rat.pow_one]
theorem abs_mul (a b : Rat) : (a * b).abs = a.abs * b.abs := by
  by_cases ha : 0 ≤ a <;> by_cases hb : 0 ≤ b
  · rw [Rat.abs_of_nonneg ha, Rat.abs_of_nonneg hb, Rat.abs_of_nonneg (Rat.mul_nonneg ha hb)]
  · have hb' : 0 ≤ -b := by grind
    rw [Rat.abs_of_nonneg ha, ← Rat.abs_neg (x := b), Rat.abs_of_nonneg hb', ← Rat.abs_neg, ← Rat.mul_neg, Rat.abs_of_nonneg (Rat.mul_nonneg ha hb')]
  · have ha' : 0 ≤ -a := by grind
    rw [Rat.abs_of_nonneg hb, ← Rat.abs_neg (x := a), Rat.abs_of_nonneg ha', ← Rat.abs_neg, ← Rat.neg_mul, Rat.abs_of_nonneg (Rat.mul_nonneg ha' hb)]
  · have ha' : 0 ≤ -a := by grind
    have hb' : 0 ≤ -b := by grind
    rw [← Rat.abs_neg (x := a), ← Rat.abs_neg (x := b), Rat.abs_of_nonneg ha', Rat.abs_of_nonneg hb']
    have e : a * b = -a * -b := by grind
    rw [e, Rat.abs_of_nonneg (Rat.mul_nonneg ha' hb')]
/-- the quotient and the remainder -/
theorem div_rem {a b : Rat} (h : b ≠ 0) : (0 < b → 0 ≤ a - b * ((a / b).floor : Rat) ∧ a - b * ((a / b).floor : Rat) < b) ∧ (b < 0 → a - b * ((a / b).floor : Rat) ≤ 0 ∧ b < a - b * ((a / b).floor : Rat)) := by
  have f1 := Rat.floor_le (a / b)
  have f2 := Rat.lt_floor_add_one (a / b)
  rw [Rat.intCast_add] at f2
  generalize ((a / b).floor : Rat) = f at f1 f2
  have e : a / b * b = a := Rat.div_mul_cancel h
  generalize a / b = d at f1 f2 e
  constructor
  · intro hb
    have m1 := Rat.mul_le_mul_of_nonneg_right f1 (Rat.le_of_lt hb)
    have m2 := Rat.mul_lt_mul_of_pos_right f2 hb
    rw [e] at m1 m2
    have c1 : ((1 : Int) : Rat) = 1 := rfl
    rw [c1] at m2
    constructor <;> grind
  · intro hb
    have hb' : 0 < -b := by grind
    have m1 := Rat.mul_le_mul_of_nonneg_right f1 (Rat.le_of_lt hb')
    have m2 := Rat.mul_lt_mul_of_pos_right f2 hb'
    have c1 : ((1 : Int) : Rat) = 1 := rfl
    rw [c1] at m2
    constructor <;> grind
theorem pos_num {q : Rat} : 0 < q.num ↔ 0 < q := by
  have h := Rat.lt_iff 0 q
  simp at h
  exact h.symm
end SQ

/-! Pairs of ints compared; a class method that reads a text. -/
namespace SQ
open PySem PySem.Spec PyProof.Rows L2 SF
section
variable {X : Cx} {C : Addr} {G : L2.St → Hp → Prop} {a b c d e : Expr} {n m : Nat} {q r : Rat} {s s1 s2 s3 s4 : Prop} {pos p1 p2 : Pos} {k1 k2 : Nat} {i j i' j' : Int}
/-- (a, b) == (c, d) -/
theorem pT_eq (hu : X.A.units + 64 < cLine) (hG : GS G) (hm : behindInMarks .Eq (.Tuple [c, d] k2 p2) = false) (ha : PE X a (TI G i s1)) (hb : PE X b (TI G j s2)) (hc : PE X c (TI G i' s3)) (hd : PE X d (TI G j' s4))
    (h1 : starEach (a :: [b]) X.env = (false, eval a X.env) :: starEach [b] X.env := by rfl) (h2 : starEach (b :: []) X.env = (false, eval b X.env) :: starEach [] X.env := by rfl)
    (h3 : starEach (c :: [d]) X.env = (false, eval c X.env) :: starEach [d] X.env := by rfl) (h4 : starEach (d :: []) X.env = (false, eval d X.env) :: starEach [] X.env := by rfl) :
    PE X (.Compare (.Tuple [a, b] k1 p1) [.Eq] [.Tuple [c, d] k2 p2] pos) (TB G (decide (i = i') && decide (j = j')) (s1 ∧ s2 ∧ s3 ∧ s4)) :=
  pe_weak (pe_cmpR (op_eqD hu) (pe_tup (pa_cons ha (pa_cons hb pa_nil h2) h1)) (pe_tup (pa_cons hc (pa_cons hd pa_nil h4) h3)) hm) fun σ H Q ⟨hg, ⟨x1, x2, x3, x4⟩, z⟩ =>
    ⟨hg, x1, fun H1 S1 => ⟨hG _ _ _ hg S1, x2, fun H2 S2 => ⟨(by show 2 ≤ sizeLine; decide), fun p np => by
      have S3 : Same H2 (upd H2 p (.tup [.int i, .int j])) := same_new (Same.refl _) np
      refine ⟨hG _ _ _ (hG _ _ _ (hG _ _ _ hg S1) S2) S3, x3, fun H3 S4 => ⟨hG _ _ _ (hG _ _ _ (hG _ _ _ (hG _ _ _ hg S1) S2) S3) S4, x4, fun H4 S5 => ⟨(by show 2 ≤ sizeLine; decide), fun p' np' => ?_⟩⟩⟩
      have S6 : Same H4 (upd H4 p' (.tup [.int i', .int j'])) := same_new (Same.refl _) np'
      have e1 : upd H4 p' (.tup [.int i', .int j']) p = some (.tup [.int i, .int j]) := S6 _ _ (S5 _ _ (S4 _ _ upd_same))
      refine ⟨.tuple [.int i, .int j], .tuple [.int i', .int j'], .tup (SqT.of e1) (.cons (.int i) (.cons (.int j) .nil)), .tup (SqT.of upd_same) (.cons (.int i') (.cons (.int j') .nil)), rfl, rfl, ?_⟩
      have e2 : PyData.eqv (.tuple [.int i, .int j]) (.tuple [.int i', .int j']) = (decide (i = i') && decide (j = j')) := by
        show (i == i' && (j == j' && true)) = _
        rw [Bool.and_true]
        rfl
      rw [e2]
      exact z _ ((((((S1.trans S2).trans S3).trans S4).trans S5)).trans S6)⟩⟩⟩
/-- C.read(e) -/
theorem pq_read {l : Nat} {pl : Sem Bool} {o : Expr} {apos : Pos} {p g : Addr} {fd : FuncData} {ps : List Str} {mc : Value} {x : Str} (ho : PE X o (tC (.ref C))) (r : ClX.CRead X.K C mc) (cm : ClX.CMet X.K C mc "read" p g) (F : FnOk X.prog X.w X.K X.mg X.base CX0 l g fd ps (spRd C)) (hb : Binds X.K fd ps []) (hr : Room l X.A)
    (ha : PE X a (TS G x s))
    (hst : starEach (a :: []) X.env = (false, eval a X.env) :: starEach [] X.env := by rfl) (hpl : (backTo pos (starEach [] X.env)).any (·.1) = false := by rfl)
    (ht : eval (.Call (.Attribute o "read" apos) (a :: []) [] pos) X.env = (do
      let ov ← eval o X.env
      standAt apos.atName
      let (f, first) ← holding [ov] (getMethod ov "read" pl)
      callWith pos f first (backTo pos (starEach (a :: []) X.env)) (backToKw pos (keywordEach [] X.env))) := by rfl) :
    PE X (.Call (.Attribute o "read" apos) [a] [] pos) (TQ C G true RDN (rdq x) (s ∧ isTx x = true ∧ x.length ≤ 640)) :=
  pe_weak (ClX.pe_cmeth (E := E0) ho r cm (F.raw hb .nil) hr pass0 (pa_cons ha pa_nil hst) hst hpl ht) fun σ H Q ⟨hg, ⟨h1, h2, h3⟩, z⟩ =>
    ⟨rfl, hg, h1, fun H1 S1 => ⟨x, rfl, h3, h2, fun p H2 S2 rq => z _ H2 (S1.trans S2) rq.nv⟩⟩
theorem pss_weak {X : Cx} {st : List Stmt} {t t' : L2.TS} (h : PSs X st t) (i : ∀ D σ H, t' D σ H → t D σ H) : PSs X st t' := ⟨fun pins s σ H D I x => h.run pins s σ H D I (i _ _ _ x)⟩
/-- a block whose reading has a number that is known only at its start -/
theorem pss_ex {α : Type} {X : Cx} {st : List Stmt} {t : α → L2.TS} (h : ∀ i, PSs X st (t i)) : PSs X st (fun D σ H => ∃ i, t i D σ H) := ⟨fun pins s σ H D I ⟨i, x⟩ => (h i).run pins s σ H D I x⟩
end
theorem rstr_len {q : Rat} {n : Nat} (h1 : (tx q.num).length ≤ n) (h2 : (tx q.den).length ≤ n) : (rstr q).length ≤ 2 * n + 1 := by
  unfold rstr
  split
  · omega
  · simp only [Str.length_append]
    have e1 : Str.empty.length = 0 := rfl
    have e2 : ("/" : Str).length = 1 := rfl
    omega
theorem tx_short {i : Int} (h : i.natAbs < 2 ^ 800) : (tx i).length ≤ 250 := by
  have hb : i.natAbs < 10 ^ 249 := Nat.lt_of_lt_of_le h (by decide +kernel)
  rcases tx_cases i with ⟨n, rfl, e⟩ | ⟨n, _, rfl, e⟩
  · rw [TL.len_tl, e]
    exact Nat.le_trans (TL.numL_len (k := 249) (by decide) (by simpa using hb)) (by decide)
  · rw [TL.len_tl, e, List.length_cons]
    have := TL.numL_len (n := n) (k := 249) (by decide) (by simpa using hb)
    omega
end SQ

/-! try .. except (A, B, C) as n, where each error is one of them; defs that are called with the error in hand. -/
namespace SFT
open PySem PySem.Spec PyProof.Rows L2 SF L2H
theorem flyingZ_keeps {B h h' : Heap} {l : List Env} {e : Addr} {Z : Obj → Prop} (x : HandSPX.FlyingZ B l e Z h) (k : ∀ b o, h.get? b = some o → h'.get? b = some o) : HandSPX.FlyingZ B l e Z h' := by
  obtain ⟨f1, f2, f3, oe, vs, T, oT, ts, he, hz, hd, h1, hn, hne, hT, hdT, h3⟩ := x
  exact ⟨fun b o q => k b o (f1 b o q), f2, f3.of_keeps fun b o q _ => ⟨o, k b o q, rfl⟩, oe, vs, T, oT, ts, k _ _ he, hz, hd, h1, hn, hne, k _ _ hT, hdT, h3⟩
/-- what the clause 'except (..) as n' wishes of an exception of the body -/
def wTup (K : PySem.W.Frag) (cs : List Value) (i : Nat) (ts : Addr → Value → Option Addr → TS) (D : Ends) : WX := fun cls d σ H =>
  PySem.W.exmAny K cls cs = some true ∧ ∀ a, H a = none → ts a cls d { nx := fun σ' H' => D.nx (σ'.set i none) H', rt := D.rt, bk := fun σ' H' => D.bk (σ'.set i none) H', ct := fun σ' H' => D.ct (σ'.set i none) H' } (σ.set i (some (.ref a))) H
section
variable {X : Cx} {x1 x2 x3 n : Str} {c1 c2 c3 : Value} {i kk : Nat} {body suite : List Stmt} {b₀ : Stmt} {np1 np2 np3 tpos pos pos' : Pos} {tb : WX → TS} {ts : Addr → Value → Option Addr → TS}
theorem ps_try_tup3 (hs : X.stack = X.env :: X.outer) (hf : X.env.frame = some X.env.locals) (hN : X.N.Nodup) (hi : X.N[i]? = some n) (hln : X.env.kindOf n = some .local) (hc1 : Names X x1 c1) (hc2 : Names X x2 c2) (hc3 : Names X x3 c3)
    (hb : ∀ (W : WX) (pn : List (Addr × Obj)) (xe : Value → Shared → Prop), (∀ q ∈ X.pn, q ∈ pn) → Takes (X.tr pn xe) W → PassesOwn (model X.prog X.w) X.A X.env xe → PSs (X.tr pn xe) body (tb W))
    (hsu : ∀ (a : Addr) (oe : Obj) (cls : Value) (d : Option Addr) (pn : List (Addr × Obj)), Zc cls d oe → (∃ vs, oe.data = .fields vs) → PSs (X.suite a ((a, oe) :: pn)) (b₀ :: suite) (ts a cls d)) :
    PS X (.Try body [.ExceptHandler (some (.Tuple [.Name x1 np1, .Name x2 np2, .Name x3 np3] kk tpos)) (some n) (b₀ :: suite) pos'] [] [] pos) (fun D σ H => tb (wTup X.K [c1, c2, c3] i ts D) D σ H) := by
  refine ⟨fun pins s σ H D I h => ?_⟩
  have ok := I.ok
  have hfr : X.A.frames = some (X.env :: X.outer) := by rw [ok.frames, hs]
  have hloc : Loc X.env.scope n := .inl hln
  refine wpAny_Try_except ?_
  refine wpAny_mono ((hb (wTup X.K [c1, c2, c3] i ts D) (X.pn ++ pins) (fun e s₁ => wpAny (model X.prog X.w) X.A (noteFrame e X.env) (fun _ s₂ => wpAny (model X.prog X.w) X.A (setFlight e none) (fun _ s₃ =>
    wpAny (model X.prog X.w) X.A (handleBy e X.env [.ExceptHandler (some (.Tuple [.Name x1 np1, .Name x2 np2, .Name x3 np3] kk tpos)) (some n) (b₀ :: suite) pos']) (SP X pins D) X.xe s₃) X.xe s₂) X.xe s₁) (fun q hq => List.mem_append_left _ hq) (fun u s' xx => ?_) PassesOwn.looking).run [] s σ H D (I.toTry _) h) (fun f s1 hsp => ?_) (fun e s1 he => he)
  · -- the catch
    obtain ⟨a, B, sI, pins', σ', H', cls, d, rfl, J', nb, up, sky, na, os, ag, hb1, hyes⟩ := xx
    have J : Inv X pins σ' H' sI := J'.ofTry ok
    have sky' : Sky B (X.env :: X.outer) a (Zc cls d) X.env.locals s'.heap := by rw [← hs]; exact sky
    show wpAny (model X.prog X.w) X.A (noteFrame (.ref a) X.env) _ _ _
    refine Sky.land Zc.steady hfr hf sky' fun h3 fl3 up3 => ?_
    have J3 : Inv X pins σ' H' { s' with heap := h3 } := J.landed nb fl3.1 (up.trans up3) os ag
    obtain ⟨oe3, vs3, he3, hz3, hd3⟩ := fl3.there
    have notFr : ∀ {h : Heap} {o : Obj} {vs : Array Value}, h.FunFrames B (X.env :: X.outer) → h.get? a = some o → o.data = .fields vs → a ∉ frs (X.env :: X.outer) := fun {h o vs} ff e dd hm => by
      obtain ⟨_, o', e', hnf⟩ := ff.mem hm
      rw [e] at e'; cases e'
      exact hnf _ dd
    have nfr := notFr fl3.2.2.1 he3 hd3
    have nL : a ≠ X.env.locals := fun z => nfr (List.mem_filterMap.mpr ⟨X.env, List.mem_cons_self, by rw [hf, z]⟩)
    have nF : a ∉ X.fs := fun hm => by
      obtain ⟨e, he, q⟩ := List.mem_filterMap.mp hm
      exact nfr (List.mem_filterMap.mpr ⟨e, List.mem_cons_of_mem _ he, q⟩)
    have S3 := J3.suite he3 hd3 na nL nF
    refine wpAny_handleBy_cons (codeAny_handlers_test ?_) (by intro q; cases q)
    have LT : PySem.W.Looks (model X.prog X.w) h3 (typeOf (.ref a)) cls := fun A Q E s k q => wpAny_typeOf_ref (k _ _ he3) (by rw [hz3.1]; exact q)
    have test : ∀ {x : Str} {c : Value} {np : Pos} {Q : Value → Shared → Prop} {E : Value → Shared → Prop}, Names X x c → Q c { s' with heap := h3 } → wpAny (model X.prog X.w) (X.A.mark (some (.ref a))) (eval (.Name x np) X.env) Q E { s' with heap := h3 } := fun {x c np Q E} hc q => by
      obtain ⟨hg, hdbg, hm | ⟨hm, hv, hnn⟩⟩ := hc
      · exact ld_glob (X := X.suite a ((a, oe3) :: (X.pn ++ pins))) S3 hg hm q hdbg
      · exact ld_blt (X := X.suite a ((a, oe3) :: (X.pn ++ pins))) S3 hg hm hv q hnn hdbg
    refine wpAny_Tuple ?_
    refine wpAny_items_cons (test hc1 ?_)
    refine wpAny_items_cons (test hc2 ?_)
    refine wpAny_items_cons (test hc3 ?_)
    refine wpAny_items_nil ⟨by size_fits, ?_⟩
    have kp : ∀ q o, h3.get? q = some o → (h3.push { cls := .type "tuple", data := .seq [c1, c2, c3].toArray }).get? q = some o := fun _ _ z => Heap.get?_push_of_some _ z
    have fl3' := flyingZ_keeps fl3 kp
    have LM := PySem.W.exm_tup3 (M := model X.prog X.w) ((J3.kIn).keeps kp) (LT.keeps kp) (Heap.get?_push_size h3 rfl) hb1
    refine LM.here ?_
    refine codeAny_handlers_suite_as ?_
    refine HandSPX.lands_againZ (s := { s' with heap := h3.push { cls := .type "tuple", data := .seq [c1, c2, c3].toArray } }) fl3' fun h4 fl4 up4 => ?_
    have J4 : Inv X pins σ' H' { s' with heap := h4 } := J.landed nb fl4.1 (((up.trans up3).trans (Heap.UpToSlots.of_keeps kp)).trans up4) os ag
    obtain ⟨oe4, vs4, he4, hz4, hd4⟩ := fl4.there
    have S4 := J4.suite he4 hd4 na nL nF
    refine store_ok (X := X.suite a ((a, oe4) :: (X.pn ++ pins))) (v := .ref a) S4 hN hi hloc rfl (fun s5 S5 => ?_) (.inr hln)
    refine wpAny_mono ((hsu a oe4 cls d (X.pn ++ pins) hz4 ⟨_, hd4⟩).run [] s5 _ H' _ S5 (hyes a na)) (fun f s6 hsp => ?_) (fun _ _ z => False.elim z)
    have end_ : ∀ {σ6 : L2.St} {H6 : Hp} {Q : Shared → Prop}, Inv (X.suite a ((a, oe4) :: (X.pn ++ pins))) [] σ6 H6 s6 → (∀ s7, Inv X pins (σ6.set i none) H6 s7 → Q s7) →
        wpAny (model X.prog X.w) X.A (do bindName X.env n .none; unbindBehindTheSuite X.env n pos') (fun _ s7 => Q s7) X.xe s6 := fun {σ6 H6 Q} S6 hq => gone_ok (S6.unsuite ok) hN hi hln hq
    cases f with
    | next =>
      obtain ⟨σ6, H6, S6, q6⟩ := hsp
      exact end_ S6 fun s7 J7 => ⟨_, _, J7, q6⟩
    | brk =>
      obtain ⟨σ6, H6, S6, q6⟩ := hsp
      exact end_ S6 fun s7 J7 => ⟨_, _, J7, q6⟩
    | cont =>
      obtain ⟨σ6, H6, S6, q6⟩ := hsp
      exact end_ S6 fun s7 J7 => ⟨_, _, J7, q6⟩
    | ret u =>
      obtain ⟨v6, σ6, H6, S6, r6, q6⟩ := hsp
      exact end_ S6 fun s7 J7 => ⟨_, _, _, J7, r6, q6⟩
  · cases f with
    | next =>
      obtain ⟨σ', H', J', q⟩ := hsp
      exact wpAny_execs_nil ⟨σ', H', J'.ofTry ok, q⟩
    | brk =>
      obtain ⟨σ', H', J', q⟩ := hsp
      exact ⟨σ', H', J'.ofTry ok, q⟩
    | cont =>
      obtain ⟨σ', H', J', q⟩ := hsp
      exact ⟨σ', H', J'.ofTry ok, q⟩
    | ret u =>
      obtain ⟨v, σ', H', J', r, q⟩ := hsp
      exact ⟨v, σ', H', J'.ofTry ok, r, q⟩
end
/-! ### a def that is called with the error p in hand -/
structure FnP (P : Program) (w : World) (K : PySem.W.Frag) (mg : Str → Option Value) (base : Heap) (CX : CXT) (k : Nat) (p : Addr × Obj) (f : Addr) (fd : FuncData) (ps : List Str) (sp : Sp) : Prop where
  len : ∀ vs H Q E, sp vs H Q E → vs.length = ps.length
  run : ∀ (A : Around) (outer : List Env) (s : Shared) (H : Hp) (args : Args) (us : List Value) (vs : List V) (Q : VK) (E : XK), A.guards = some [] → RoomH k A → PinOk outer H s p → Env0 P w K mg base A outer s H → BindsTo s fd args (ps.zip us) → Vals vs us → sp vs H Q E →
    codeAny (model P w) A (.call (.ref f) args) (CR CX outer P w H s Q E) s
theorem fn_ofP {CX : CXT} {P : Program} {w : World} {K : PySem.W.Frag} {mg : Str → Option Value} {base : Heap} {k : Nat} {f : Addr} {name qual : Str} {params : Arguments} {body : List Stmt} {scope : Scope} {dV kV doc pm cdv ct oc : Value} {an od : Option Addr}
    {osl : Array (Option Value)} {N ps : List Str} {sp : Sp} {p : Addr × Obj} (lk : K.lookup f = some ⟨oc, od, .func (PySem.W.fnOf name qual params body scope dV kV doc pm an cdv ct), osl⟩) (hcd : PySem.W.codeIn K cdv qual = true) (S : FnScope N ps scope)
    (len : ∀ vs H Q E, sp vs H Q E → vs.length = ps.length)
    (hbody : ∀ (A : Around) (outer : List Env) (s : Shared) (H : Hp) (vs : List V) (Q : VK) (E : XK), A.guards = some [] → RoomH k (A.deeper (envOfC qual scope s.heap.objs.size f cdv)) → sp vs H Q E →
      ∃ t, PSs (cxH CX P w K mg base N qual scope f cdv A outer s H E p) body t ∧ t { nx := fun _ H' => Q .non H', rt := Q } (L2.start N vs) H) :
    FnP P w K mg base CX (k + 1) p f (PySem.W.fnOf name qual params body scope dV kV doc pm an cdv ct) ps sp := by
  refine ⟨len, fun A outer s H args us vs Q E hgd hr hpin e0 hb r hsp => ?_⟩
  have hl := len _ _ _ _ hsp
  have KX : K.In s.heap := e0.mod.kin.keeps fun b o e => (e0.bs b o e).1
  have lim : s.heap.NoLimit := e0.mod.nolimit.keeps fun b o e => (e0.bs b o e).1
  have hkind : ∀ y ∈ ps.zip us, scope.names.lookup y.1 = some .local ∨ (scope.names.lookup y.1 = some .cell ∧ ((cellsFrom (s.heap.objs.size + 1) scope.names []).lookup y.1).isSome = true) := fun ⟨n, v⟩ hy => by
    rcases S.par n (List.of_mem_zip hy).1 with q | q
    · exact .inl q
    · exact .inr ⟨q, PySem.W.cellsFrom_some _ _ _ (.inl q)⟩
  refine codeAny_call_function hr.depth (KX _ _ lk) rfl S.co S.gen rfl (PySem.W.codeRec_of KX hcd) (hb _ _ _ _ ?_)
  refine wpAny_newFunctionEnv_cells S.kind hkind fun env he s1 x => ?_
  subst he
  refine ⟨lim.keeps x.toInCall.keep, codeAny_func ?_⟩
  obtain ⟨t, ht, hq⟩ := hbody A outer s H vs Q E hgd (hr.deeper _) hsp
  have I : Inv (cxH CX P w K mg base N qual scope f cdv A outer s H E p) [] (L2.start N vs) H s1 := inv_startH S hpin e0 hl r x
  refine wpAny_mono (ht.run [] s1 (L2.start N vs) H _ I hq) (fun fl s' hs => ?_) fun e s' hs => hs
  have fin : ∀ {σ' : L2.St} {H' : Hp} {v : V} {u : Value}, Inv (cxH CX P w K mg base N qual scope f cdv A outer s H E p) [] σ' H' s' → RelV v u → Q v H' → CE outer P w H s Q u s' :=
    fun {σ' H' v u} J rv q => ⟨v, H', J.os, J.bare, J.base, J.hok, rv, q⟩
  cases fl with
  | ret u =>
    obtain ⟨v, σ', H', J, rv, q⟩ := hs
    exact fin J rv q
  | next =>
    obtain ⟨σ', H', J, q⟩ := hs
    exact fin (v := V.non) (u := Value.none) J rfl q
  | brk =>
    obtain ⟨_, _, _, q⟩ := hs
    exact False.elim q
  | cont =>
    obtain ⟨_, _, _, q⟩ := hs
    exact False.elim q
section
variable {X : Cx} {CX : CXT} {k : Nat} {f C : Addr} {fd : FuncData} {ps : List Str} {sp : Sp} {E : L2.St → XK} {x m : Str} {q pos apos : Pos} {e o : Expr} {es : List Expr} {ta : TE} {t : TA} {p : Addr × Obj}
theorem run_fnP {pins : List (Addr × Obj)} {σ : L2.St} {H : Hp} {s : Shared} {Q : VK} {us : List Value} {vs : List V} (F : FnP X.prog X.w X.K X.mg X.base CX k p f fd ps sp) (hgd : X.A.guards = some []) (hr : RoomH k X.A) (hp : p ∈ X.pn) (hb : Binds X.K fd ps []) (hx : PassesAt CX X σ (E σ))
    (I : Inv X pins σ H s) (r : Vals vs us) (h : sp vs H Q (E σ)) : wpAny (model X.prog X.w) X.A (call (.ref f) us) (EP X pins σ Q) X.xe s := by
  have hl : us.length = ps.length := by rw [← r.length]; exact F.len _ _ _ _ h
  have b := hb s us I.kIn (by rw [List.append_nil]; exact hl)
  rw [List.append_nil] at b
  have P1 := I.pin p (List.mem_append_left _ hp)
  have hpin : PinOk X.stack H s p := ⟨P1.1, P1.2.1, fun hm => (List.mem_cons.mp (I.stkSub p.1 hm)).elim P1.2.2.1 P1.2.2.2.1, P1.2.2.2.2⟩
  refine wpAny_call (codeAny_mono (F.run X.A X.stack s H ⟨us, []⟩ us vs Q (E σ) hgd hr hpin I.env0 b r h) fun r s' hq => ?_)
  cases r with
  | error e => exact hx pins H s e s' I hq
  | ok fl =>
    cases fl with
    | ret u => exact I.after hq
    | next => exact False.elim hq
    | brk => exact False.elim hq
    | cont => exact False.elim hq
theorem pe_callP (F : FnP X.prog X.w X.K X.mg X.base CX k p f fd ps sp) (hgd : X.A.guards = some []) (hr : RoomH k X.A) (hp : p ∈ X.pn) (hg : Gl X x) (hm : X.mg x = some (.ref f)) (hk : PySem.W.keepIn X.K (.ref f) = true) (hb : Binds X.K fd ps []) (hx : ∀ σ, PassesAt CX X σ (E σ))
    (ha : PA X (e :: es) t) (hdb : (x == ("__debug__" : Str)) = false := by decide) (he : starEach (e :: es) X.env = (false, eval e X.env) :: starEach es X.env := by rfl) (hpl : (backTo pos (starEach es X.env)).any (·.1) = false := by rfl) :
    PE X (.Call (.Name x q) (e :: es) [] pos) (tCallS sp E t) := by
  refine ⟨fun pins s σ H Q I h => ?_⟩
  refine wpAny_Call_Name_kw (ld_glob I hg hm ?_ hdb)
  refine PySem.W.callWith_K (h₀ := X.base) I.ok.mod.kin hk (thn (ha.run pos pins s σ H _ I h) fun us s1 ⟨vs, H1, I1, r, q⟩ => ⟨I1.kIn, ?_⟩) he hpl
  exact run_fnP F hgd hr hp hb (hx σ) I1 r q
end
/-! ### isinstance, fields of the error in hand -/
theorem call_isP {X : Cx} {a D : Addr} {oe : Obj} (C : ExcC X.K D) (hz : Zc (.ref D) none oe) (hf : ∃ vs, oe.data = .fields vs) (hp : (a, oe) ∈ X.pn) : CallR X (.builtin "isinstance") (rIsE X.K D a) := by
  intro pins s σ H xs us Q I r h
  obtain ⟨c, cv, b, rfl, hcv, e, q⟩ := h
  cases r with
  | cons rx rr =>
    cases rr with
    | cons rt rr =>
      cases rr
      cases rx
      have ec := hcv _ rt
      subst ec
      obtain ⟨hget, _⟩ := I.pin (a, oe) (List.mem_append.mpr (.inl hp))
      obtain ⟨vs, hv⟩ := hf
      have J : PySem.W.InstAt s.heap a oe D none := by
        obtain ⟨oc, od, oda, osl⟩ := oe
        obtain ⟨h1, h2⟩ := hz
        dsimp only at h1 h2 hv
        subst h1 h2 hv
        exact ⟨hget, rfl, rfl, trivial⟩
      exact PySem.W.kia_one (PySem.W.handS_kitx_exc C.hg C.hk C.hs C.hd C.ha C.hn C.ht C.hm) I.kIn J e (fun z => nomatch z) fun tk => ⟨.bl b, H, I.kept (t' := tk) fun _ _ z => z, rfl, q⟩
theorem pe_xfP {X : Cx} {a C : Addr} {oe : Obj} {cls : Value} {d : Option Addr} {e : Expr} {te : TE} {pos : Pos} {n : Str} (T : XfC X.K C) (hno : PySem.W.findIn X.K (.ref C) n = some none)
    (hz : Zc cls d oe) (hf : ∃ vs, oe.data = .fields vs) (hp : (a, oe) ∈ X.pn) (he : PE X e te) (hb : attributeBase e n X.env (eval e X.env) = eval e X.env := by rfl) :
    PE X (.Attribute e n pos) (tXf a cls d C n te) := by
  refine ⟨fun pins s σ H Q I h => ?_⟩
  refine attr_of hb (thn (he.run pins s σ H _ I h) fun u s1 hh => ?_)
  obtain ⟨x, H1, I1, rx, ex, ec, dd, fs, v, ed, ea, l, q⟩ := hh
  subst ex
  obtain rfl : u = Value.ref a := rx
  subst ec
  subst ed
  obtain ⟨ha, _⟩ := I1.pin (a, oe) (List.mem_append_left _ hp)
  obtain ⟨vs, hd⟩ := hf
  have hx : ObjOk X.prog X.w H1 s1.heap dd (.xd fs) := I1.hok dd _ ea
  obtain ⟨mA, hns, hr⟩ := hx
  obtain ⟨od, ho, hl⟩ := lookIn_ns hns
  obtain ⟨u, hu, ru⟩ := RelO.some_of (v := v) (o := mA n) (by rw [← l]; exact hr n)
  have J : PySem.W.InstAt s1.heap a oe C (some od) := ⟨ha, hz.1, by unfold PySem.W.notCls; rw [hd] <;> rfl, by rw [hz.2]; exact ho⟩
  exact HandSPX.exc_get I1.kIn J T.ga T.gg T.exC (PySem.W.findObj_own T.hdC hno rfl (by rw [hl, hu])) (handed_of ru) ⟨v, H1, I1.tok _, ru, q⟩
end SFT

/-! Own exceptions held as values: isinstance and fields. -/
namespace SX
open PySem PySem.Spec PySem.W PySem.Calls PyProof.Rows L2 SF
/-- at a: an exception of the own class at D, not raised; fs: what it was given -/
def ExA (H : Hp) (a D : Addr) (fs : List (Str × V)) : Prop := (∃ d, H a = some (exo a D (some d)) ∧ H d = some (exd d fs)) ∨ (fs = [] ∧ H a = some (ExO (.ref D) a))
theorem ExA.same {H H' : Hp} {a D : Addr} {fs : List (Str × V)} (e : ExA H a D fs) (s : ∀ b o, H b = some o → H' b = some o) : ExA H' a D fs := by
  rcases e with ⟨d, h1, h2⟩ | ⟨h0, h1⟩
  · exact .inl ⟨d, s _ _ h1, s _ _ h2⟩
  · exact .inr ⟨h0, s _ _ h1⟩
section
variable {prog : Program} {w : World} {A : Around} {E : Value → Shared → Prop} {s : Shared} {K : Frag} {x D : Addr} {ox : Obj} {od : Option Obj}
theorem find_data {a g : Value} {name : Str} (hc : (clsIn K D).isSome = true) (ha : findIn K (.ref D) name = some (some a)) (hg : specialIn K a "__get__" = some (some g)) (ht : takesIn K a = some true) : findObj K D od name = some (.bind g a) := by
  obtain ⟨cd, hc⟩ := Option.isSome_iff_exists.mp hc
  unfold findObj
  rw [hc, Option.bind_some, ha, Option.bind_some]
  simp [hg, ht]
theorem cls_isSome (h : hasDictIn K D = true) : (clsIn K D).isSome = true := by
  obtain ⟨cd, hc, _⟩ := any_some h
  rw [hc]
  rfl
/-- x.__class__, whatever dict the exception has -/
theorem class_ask {Q : Option Value → Shared → Prop} (C : ExcC K D) (X : K.In s.heap) (I : InstAt s.heap x ox D od) (h : Q (some (.ref D)) { s with toks := s.toks + 1 }) : wpAny (model prog w) A (getAttr? (.ref x) "__class__") Q E s := by
  have hf : findObj K D od "__class__" = some (.bind (.builtin "getset_descriptor.__get__") (.builtin "object.__class__")) := find_data (cls_isSome C.hd) C.ha C.hn C.ht
  obtain ⟨hp, g, d, t, os⟩ := s
  have L0 := I.type (M := model prog w)
  have L1 := looks_findIn (M := model prog w) X C.hg
  have L2 := looks_findIn (M := model prog w) X C.hk
  have L3 := looks_find (M := model prog w) X I hf
  have sub : Looks (model prog w) hp (isInstance (.ref x) (.type "BaseException")) true := L0.andThen (looks_subIn X C.hs)
  have n0 : (false && onTheHeap (Value.builtin "BaseException.__getattribute__")) = false := rfl
  have n2 : (Value.builtin "BaseException.__getattribute__" == Value.builtin "object.__getattribute__") = false := by decide +kernel
  have n1 : (onTheHeap (Value.ref D) && Value.builtin "BaseException.__getattribute__" == Value.builtin "object.__getattribute__") = false := by rw [n2]; rfl
  unfold getAttr? getAttrBy? getAttrBy
  refine wpAny_bind (wpAny_mkText (wpAny_bind (wpAny_attempt (wpAny_holding (wpAny_bind (L0.at (wpAny_bind (L1.at ?_))))))))
  show wpAny _ _ (if (onTheHeap (Value.ref D) && Value.builtin "BaseException.__getattribute__" == Value.builtin "object.__getattribute__") = true then _ else _) _ _ _
  rw [n1, if_neg Bool.false_ne_true]
  unfold getAttrByItsOwn hookBefore
  refine wpAny_bind ?_
  rw [if_pos (show onTheHeap (Value.ref D) = true from rfl)]
  refine L2.at ?_
  refine wpAny_bind (wpAny_attempt (wpAny_holding ?_))
  unfold callGetattribute
  rw [n0, if_neg Bool.false_ne_true]
  unfold boundAndCalled
  rw [PySem.F.excAttr_ValueError.ga.bind (.ref x)]
  refine wpAny_bind (wpAny_pure ?_)
  show wpAny _ _ (call (.builtin "BaseException.__getattribute__") [.ref x, .str "__class__" t]) _ _ _
  refine wpAny_call (codeAny_call_builtin PySem.F.excAttr_ValueError.ga.plain PySem.F.entry_bexc_ga ?_)
  refine @check_slot (model prog w) _ _ ⟨hp, g, d, t + 1, os⟩ "BaseException.__getattribute__" "BaseException" "__getattribute__" (.ref x) [.str "__class__" t] [] _ (by decide +kernel) (by decide +kernel) sub (PySem.F.args_bexc_ga (.ref x) (.str "__class__" t)) ?_
  unfold Builtin.«object.__getattribute__»
  refine wpAny_bind (wpAny_of_eq (a := ((Value.ref x : Value), [Value.str "__class__" t])) (by first | rfl | (simp only [slotArgs]; rfl)) ?_)
  refine wpAny_bind (wpAny_pure (wpAny_bind (L0.at (wpAny_bind (L3.at ?_)))))
  show wpAny _ _ (holding [Value.builtin "object.__class__"] (call (.builtin "getset_descriptor.__get__") [.builtin "object.__class__", .ref x, .ref D]) >>= ret) _ _ _
  refine wpAny_bind (wpAny_holding (wpAny_call (class_get (s := ⟨hp, g, d, t + 1, os⟩) (ox := ox) (od := od) X I C.hm ?_)))
  refine wpAny_pure ?_
  show wpAny _ _ (handedOut (.ref D)) _ _ _
  rw [handedOut_of (v := .ref D) rfl]
  first
    | exact wpAny_pure (wpAny_pure h)
    | exact wpAny_pure h
    | exact wpAny_pure (wpAny_bind (wpAny_pure (wpAny_pure h)))
theorem cls_obj (hd : hasDictIn K D = true) : ∃ cls dict cd sl, K.lookup D = some ⟨cls, dict, .cls cd, sl⟩ := by
  have h := cls_isSome hd
  unfold clsIn at h
  split at h
  · rename_i c' d' cd' sl' ho
    exact ⟨c', d', cd', sl', ho⟩
  · cases h
theorem kit_exc (C : ExcC K D) : KitX K (.ref x) (.ref D) (fun h => InstAt h x ox D od) where
  ty := fun _ _ _ I => I.type
  it := fun _ _ X _ => by
    obtain ⟨_, _, _, _, ho⟩ := cls_obj C.hd
    intro A' Q' E' s' k q
    unfold isType loadHead
    exact wpAny_bind (wpAny_loadPart (k _ _ (X _ _ ho)) (wpAny_pure q))
  ne := fun h tp dd its n sl X htp => by
    obtain ⟨_, _, _, _, ho⟩ := cls_obj C.hd
    refine Bool.eq_false_iff.mpr fun q => ?_
    have e : D = tp := Value.ref.inj (beq_iff_eq.mp q)
    subst e
    have z := (X _ _ ho).symm.trans htp
    cases z
  ca := fun X I k => class_ask C X I k
end
section
variable {X : Cx} {pins : List (Addr × Obj)} {σ : L2.St} {H : Hp} {s : Shared} {a D : Addr} {fs : List (Str × V)}
/-- the exception's object, its dict's object -/
theorem exA_inst (I : Inv X pins σ H s) (e : ExA H a D fs) : ∃ (ox : Obj) (od : Option Obj), InstAt s.heap a ox D od ∧ ∀ f v, fs.lookup f = some v → ∃ o u, od = some o ∧ lookIn f o = some (some u) ∧ RelV v u := by
  rcases e with ⟨d, h1, h2⟩ | ⟨rfl, h1⟩
  · obtain ⟨t1, ho⟩ := exo_at I.hok h1
    obtain ⟨mA, hns, hr⟩ := exd_at I.hok h2
    obtain ⟨od, hod, hl⟩ := lookIn_ns hns
    refine ⟨_, some od, ⟨ho, rfl, rfl, hod⟩, fun f v hf => ?_⟩
    obtain ⟨u, hu, ru⟩ := RelO.some_of (v := v) (o := mA f) (by rw [← hf]; exact hr f)
    exact ⟨od, u, rfl, by rw [hl, hu], ru⟩
  · obtain ⟨⟨oe, vs, ho, hz, hd, _⟩, _, _⟩ := I.hok a _ h1
    refine ⟨oe, none, ⟨ho, hz.1, by unfold PySem.W.notCls; rw [hd] <;> rfl, by rw [hz.2]; trivial⟩, fun f v hf => ?_⟩
    cases hf
/-- isinstance(e, C) -/
def rIsX (K : PySem.W.Frag) : List V → Hp → VK → Prop := fun xs H Q => ∃ (a D : Addr) (fs : List (Str × V)) (c : V) (u : Value) (b : Bool), xs = [.ref a, c] ∧ ClsV c u ∧ ExA H a D fs ∧ ExcC K D ∧ PySem.W.kitOne K (.ref D) u = some b ∧ Q (.bl b) H
theorem call_isX : CallR X (.builtin "isinstance") (rIsX X.K) := by
  intro pins s σ H xs us Q I r h
  obtain ⟨a, D, fs, c, u, b, rfl, k, ea, C, e, q⟩ := h
  obtain ⟨u1, u2, rfl, r1, r2⟩ := vals2 r
  have e2 := k.eq r2
  subst e2
  cases (show u1 = Value.ref a from r1)
  obtain ⟨ox, od, J, _⟩ := exA_inst I ea
  exact PySem.W.kia_one (kit_exc C) I.kIn J e (fun z => nomatch z) fun tk => ⟨.bl b, H, I.tok tk, rfl, q⟩
/-- e.f -/
def tFldX (K : PySem.W.Frag) (f : Str) (te : TE) : TE := fun σ H Q => te σ H fun x H1 => ∃ (a D : Addr) (fs : List (Str × V)) (v : V), x = .ref a ∧ ExA H1 a D fs ∧ XfC K D ∧ PySem.W.findIn K (.ref D) f = some none ∧ fs.lookup f = some v ∧ Q v H1
theorem pe_fldX {e : Expr} {te : TE} {pos : Pos} {n : Str} (he : PE X e te) (hb : attributeBase e n X.env (eval e X.env) = eval e X.env := by rfl) : PE X (.Attribute e n pos) (tFldX X.K n te) := by
  refine ⟨fun pins s σ H Q I h => ?_⟩
  refine attr_of hb (thn (he.run pins s σ H _ I h) fun u s1 hh => ?_)
  obtain ⟨x, H1, I1, rx, a, D, fs, v, rfl, ea, T, hno, l, q⟩ := hh
  obtain rfl : u = Value.ref a := rx
  obtain ⟨ox, od, J, hl⟩ := exA_inst I1 ea
  obtain ⟨o, u, rfl, hu, ru⟩ := hl n v l
  exact HandSPX.exc_get I1.kIn J T.ga T.gg T.exC (PySem.W.findObj_own T.hdC hno rfl hu) (handed_of ru) ⟨v, H1, I1.tok _, ru, q⟩
end
end SX

/-! Own exceptions made as values, by position and by name. -/
namespace SX
open PySem PySem.HandSPX
section
variable {M : Model} {A : Around} {E : Value → Shared → Prop} {h : Heap} {g : Array GenState} {d : Drawn} {t : Nat} {os : OsState}
variable {nm q : Str} {C N : Addr} {bs bm bmB : List Value} {hdct : Bool} {sn : List Str} {sub : List Value} {ab : Bool} {col : Option Bool} {dd : Option Addr} {k0 k1 k2 k3 k5 : Option Value} {B newId initId : String}
theorem check_new_kw (F : ExcBaseFacts B newId initId bmB) (hT : ∀ X : String, bm.contains (.type X) = bmB.contains (.type X)) {rest : List Value} {kw : List (Str × Value)} {Q : Unit → Shared → Prop}
    (hC : h.get? C = some (excClassObj nm q C N bs bm hdct sn sub ab col dd k0 k1 k2 k3 k5 newId)) (hq : Q () ⟨h, g, d, t, os⟩) : wpAny M A (checkBuiltinCall newId ⟨.ref C :: rest, kw⟩) Q E ⟨h, g, d, t, os⟩ := by
  have hcont : (Value.ref C :: bm).contains (.type B) = true := by rw [List.contains_cons, hT, F.hasB, Bool.or_true]
  have hstar := F.noStar
  simp only [checkBuiltinCall, F.newKind, F.newSplit, F.newRow]
  repeat (first | refine wpAny_loadPart_at hC ?_ | (refine wpAny_isSubtype_exc hC ?_; rw [hcont]) | refine wpAny_staticBase_exc hC ?_ | refine wpAny_madeBy_exc hC ?_ | simp only [bne_self_eq_false, Bool.false_eq_true, if_false] | wp_step)
  exact hq
end
section
variable {prog : Program} {w : World} {A : Around} {E : Value → Shared → Prop} {R : Result → Shared → Prop} {h : Heap} {g : Array GenState} {d : Drawn} {t : Nat} {os : OsState}
variable {nm q : Str} {C N : Addr} {bs bm bmB : List Value} {hdct : Bool} {sn : List Str} {sub : List Value} {ab : Bool} {col : Option Bool} {dd : Option Addr} {k0 k1 k2 k3 k5 : Option Value} {B newId initId : String}
theorem new_kw (F : ExcBaseFacts B newId initId bmB) (hT : ∀ X : String, bm.contains (.type X) = bmB.contains (.type X)) {rest : List Value} {kw : List (Str × Value)}
    (hC : h.get? C = some (excClassObj nm q C N bs bm hdct sn sub ab col dd k0 k1 k2 k3 k5 newId))
    (hq : R (.ok (.ret (.ref (h.objs.size + 1)))) ⟨(h.push { cls := .type "tuple", data := .seq rest.toArray }).push
      { cls := .ref C, data := .fields #[.ref h.objs.size, .none, .none, .none, .bool false, .none] }, g, d, t, os⟩) (hrest : rest.length ≤ sizeLine) :
    codeAny (model prog w) A (.builtin newId ⟨.ref C :: rest, kw⟩) R ⟨h, g, d, t, os⟩ := by
  have hends := F.ends
  have hcB : (Value.ref C :: bm).contains (.type B) = true := by rw [List.contains_cons, hT, F.hasB, Bool.or_true]
  have hcA : (Value.ref C :: bm).contains (.type "AttributeError") = false := by rw [List.contains_cons, hT, F.noAttr]; rfl
  have hcN : (Value.ref C :: bm).contains (.type "NameError") = false := by rw [List.contains_cons, hT, F.noName]; rfl
  refine codeAny_builtinAt F.entry ?_
  unfold Builtin.«BaseException.__new__»
  refine wpAt_bind ?_
  show wpAt _ _ _ (stack >>= _) _ _ _
  refine wpAt_bind (wpAt_stack fun p below => wpAt_of_wpAny ?_)
  wp_walk
  refine wpAt_of_wpAny ?_
  rw [F.owner]
  repeat (first | with_reducible refine wpAny_madeHere_exc F.canon hC ?_ | with_reducible refine wpAny_loadPart_at hC ?_ | (with_reducible refine wpAny_isSubtype_exc hC ?_; first | rw [hcB] | rw [hcA] | rw [hcN]) | wp_step)
  show R _ _
  rw [Heap.size_push]
  exact hq

theorem type_call_kw (F : ExcBaseFacts B newId initId bmB) (hT : ∀ X : String, bm.contains (.type X) = bmB.contains (.type X)) {rest : List Value} {kw : List (Str × Value)} {fI : Addr} {Q : Fin → Shared → Prop}
    (hC : h.get? C = some (excClassObj nm q C N bs bm hdct sn sub ab col dd k0 k1 k2 k3 k5 newId))
    (hi : W.Looks (model prog w) h (typeLookup (.ref C) "__init__") (some (.ref fI))) (hb : ∀ self, W.Looks (model prog w) h (bindSpecial (.ref fI) self) (.ref fI, [self])) (hrest : rest.length ≤ sizeLine)
    (hq : codeAny (model prog w) A (.call (.ref fI) ⟨.ref (h.objs.size + 1) :: rest, kw⟩)
      (fun r s' => match r with | .ok (.ret v) => v = .none ∧ Q (.done (.ret (.ref (h.objs.size + 1)))) s' | .ok _ => False | .error e => E e s')
      ⟨(h.push (W.kdv_tup rest)).push (excO C h.objs.size), g, d, t, os⟩) :
    wpAny (model prog w) A (Builtin.«type.__call__» ⟨.ref C :: rest, kw⟩) Q E ⟨h, g, d, t, os⟩ := by
  repeat (first | with_reducible refine wpAny_loadPart_at hC ?_ | with_reducible refine wpAny_madeBy_exc hC ?_ | wp_step)
  refine codeAny_call_builtin_code (Code.quiet_builtin _ F.quiet) (check_new_kw F hT hC ?_)
  refine new_kw F hT hC ?_ hrest
  show wpAny _ _ _ _ _ _
  have k : ∀ b o, h.get? b = some o → ((h.push (W.kdv_tup rest)).push (excO C h.objs.size)).get? b = some o := fun b o e => Heap.get?_push_of_some _ (Heap.get?_push_of_some _ e)
  have hC₁ := k _ _ hC
  have hget : ((h.push (W.kdv_tup rest)).push (excO C h.objs.size)).get? (h.objs.size + 1) = some (excO C h.objs.size) := by heap_get
  have hcC : (Value.ref C :: bm).contains (.ref C) = true := by simp
  have i1 := hi.keeps k
  have b1 := (hb (.ref (h.objs.size + 1))).keeps k
  unfold isInstance
  repeat (first | with_reducible refine wpAny_loadPart_at hget ?_ | (with_reducible refine wpAny_isSubtype_exc hC₁ ?_; rw [hcC]) | wp_step)
  show wpAny _ _ (typeLookup (.ref C) _) _ _ _
  refine i1.at ?_
  refine wpAny_holding (wpAny_bind (b1.at ?_))
  refine wpAny_bind (wpAny_call (codeAny_mono hq fun r s' z => ?_))
  rcases r with e | (v | _ | _ | _) <;> first | exact z | exact z.elim | skip
  obtain ⟨rfl, z⟩ := z
  first
    | exact wpAny_pure (wpAny_pure z)
    | (wp_walk; exact z)
/-- a call of the class with keywords, too -/
theorem call_kw (F : ExcBaseFacts B newId initId bmB) (hT : ∀ X : String, bm.contains (.type X) = bmB.contains (.type X)) {rest : List Value} {kw : List (Str × Value)} {fI : Addr}
    (hC : h.get? C = some (excClassObj nm q C N bs bm hdct sn sub ab col dd k0 k1 k2 k3 k5 newId))
    (hi : W.Looks (model prog w) h (typeLookup (.ref C) "__init__") (some (.ref fI))) (hb : ∀ self, W.Looks (model prog w) h (bindSpecial (.ref fI) self) (.ref fI, [self])) (hrest : rest.length ≤ sizeLine)
    (hq : codeAny (model prog w) (A.under (.builtin "type.__call__" ⟨.ref C :: rest, kw⟩)) (.call (.ref fI) ⟨.ref (h.objs.size + 1) :: rest, kw⟩) (W.InitBack (h.objs.size + 1) R)
      ⟨(h.push (W.kdv_tup rest)).push (excO C h.objs.size), g, d, t, os⟩) :
    codeAny (model prog w) A (.call (.ref C) ⟨rest, kw⟩) R ⟨h, g, d, t, os⟩ := by
  have f1 := tc_lookup
  have f2 := tc_bind (.ref C)
  have hTy : (⟨h, g, d, t, os⟩ : Shared).TypeIs (.ref C) "type" := ⟨_, hC, rfl⟩
  refine codeAny_of_tree ?_
  show wpAny _ _ (callAny (.ref C) _) _ _ _
  repeat (any_goals (first | assumption | with_reducible refine wpAny_loadPart_at hC ?_ | wp_step))
  refine ⟨rfl, ?_⟩
  refine codeAny_call_builtin_at (Code.quiet_builtin _ (by decide +kernel)) entry_typeCall (wpAny_check_type_call_sub hC (type_call_kw F hT hC hi hb hrest ?_))
  refine codeAny_mono hq fun r s' z => ?_
  rcases r with e | (v | _ | _ | _) <;> exact z
end
end SX

namespace SX
open PySem PySem.Spec PySem.W PySem.Calls PyProof.Rows L2 SF
/-- what the written part says of an own class of exceptions -/
structure ExK (K : Frag) (C : Addr) : Prop where
  b : ∃ (B newId initId : String) (bmB : List Value), ExcBaseFacts B newId initId bmB ∧ StoreFacts B bmB "object.__setattr__" "object" ∧ excInitIn K C bmB newId = true ∧ excOver K C bmB = true
  hd : hasDictIn K C = true
  sa : findIn K (.ref C) "__setattr__" = some (some (.builtin "object.__setattr__"))
  kC : keepIn K (.ref C) = true
section
variable {X : Cx} {pins : List (Addr × Obj)} {σ : L2.St} {H : Hp} {s : Shared} {a C dx : Addr} {f : Str} {y : V} {u : Value} {fs : List (Str × V)} {Q : Unit → Shared → Prop} {E : Value → Shared → Prop} {A : Around}
/-- self.f = y, the first one: the object's own dict is made -/
theorem set_new (T : ExK X.K C) (I : Inv X pins σ H s) (e : H a = some (exo a C none)) (hno : NoAttr X.K C f) (ry : RelV y u)
    (h : ∀ dx s', H dx = none → dx ≠ a → Inv X pins σ (upd (upd H dx (exd dx [(f, y)])) a (exo a C (some dx))) s' → Q () s') : wpAny (model X.prog X.w) A (setAttr (.ref a) f u) Q E s := by
  obtain ⟨B, newId, initId, bmB, _, SF, _, ho⟩ := T.b
  obtain ⟨t1, hx⟩ := exo_at I.hok e
  obtain ⟨cd, hc, hd'⟩ := any_some T.hd
  obtain ⟨hp, g, d, t, os⟩ := s
  refine set_plain I.kIn (ox := { cls := .ref C, dict := none, data := .fields #[.ref t1, .none, .none, .none, .bool false, .none] }) (od := none) ⟨hx, rfl, rfl, trivial⟩ T.sa ?_
  refine osa_openX (s := ⟨hp, g, d, t + 1, os⟩) (od := none) SF I.kIn ⟨hx, rfl, rfl, trivial⟩ ho hno.taker fun b => ?_
  have hxs : a ≠ hp.objs.size := Nat.ne_of_lt (Heap.lt_size hx)
  have hnd : H hp.objs.size = none := I.hok.fresh (Nat.le_refl _)
  refine wpAny_bind (wpAny_pure (wpAny_bind (instanceDict_exc (s := ⟨hp, g, d, t + 1, os⟩) hx (looks_clsIn I.kIn hc) hd' ?_)))
  show wpAny _ _ (Builtin.ObjectAttr.storeInDict hp.objs.size (.str f t) f u) _ _ _
  refine HandSPX.store_in_new ⟨_, #[], _, (Heap.get?_update_ne _ _ _ _ hxs.symm).trans (Heap.get?_push_at rfl rfl), rfl, fun e he => absurd he (by simp), fun _ => rfl⟩ fun h' tk' hn' hs => ?_
  have hx1 : (hp.push { cls := .type "dict", data := .dict #[] }).get? a = some { cls := .ref C, data := .fields #[.ref t1, .none, .none, .none, .bool false, .none] } := Heap.get?_push_of_some _ hx
  have k : ∀ b o, b ≠ a → hp.get? b = some o → h'.get? b = some o := fun b o hb q => (hs.2 b (Nat.ne_of_lt (Heap.lt_size q))).trans ((Heap.get?_update_ne _ _ _ _ hb).trans (Heap.get?_push_of_some _ q))
  have hx2 : h'.get? a = some { cls := .ref C, dict := some hp.objs.size, data := .fields #[.ref t1, .none, .none, .none, .bool false, .none] } := (hs.2 a hxs).trans (Heap.get?_update_self _ hx1 rfl)
  have nd : ∀ {b : Addr} {o : Obj}, hp.get? b = some o → b ≠ hp.objs.size := fun {b o} q => Nat.ne_of_lt (Heap.lt_size q)
  have na : ∀ {b : Addr}, H b = none → b ≠ a := fun {b} n z => by
    rw [z, e] at n
    cases n
  have U : Un X.fs [] H (upd (upd H hp.objs.size (exd hp.objs.size [(f, y)])) a (exo a C (some hp.objs.size))) hp h' := {
    keep := fun b o q n _ _ => k b o (na n) q
    slot := fun b o q n _ _ => ⟨o.slots, k b o (na n) q⟩
    free := fun b o q n _ => by rw [upd_ne (na n), upd_ne (nd q)]; exact n
    there := fun b o q _ => by
      by_cases hb : b = a
      · exact ⟨_, by rw [hb]; exact hx2⟩
      · exact ⟨o, k b o hb q⟩
    tups := fun b xs q => by rw [upd_ne (at_ne e q exo_tup), upd_ne (ne_of_none q hnd)]; exact q
    frzs := fun b o v q => by rw [upd_ne (at_ne e q exo_frz), upd_ne (ne_of_none q hnd)]; exact q
    tbls := fun b ps q => ⟨#[], by rw [upd_ne (at_ne e q exo_tbl), upd_ne (ne_of_none q hnd), q]; simp⟩ }
  refine h hp.objs.size _ hnd hxs.symm (I.un (t' := tk') U fun b o q => ?_)
  by_cases hb : b = a
  · subst hb
    rw [upd_same] at q
    cases q
    exact exo_ok hx2
  · rw [upd_ne hb] at q
    by_cases hd : b = hp.objs.size
    · subst hd
      rw [upd_same] at q
      cases q
      exact exd_ok hn' (relO_put (fs := []) ry fun g => True.intro)
    · rw [upd_ne hd] at q
      exact (I.hok b o q).stay (fun c v hc z => k c v (by
          rcases hc with hc | hc
          · rw [hc]
            exact hb
          · exact at_ne e hc exo_own) z)
        (fun c hc => by rw [upd_ne (at_ne e hc exo_own), upd_ne (ne_of_none hc hnd)]; exact hc) (fun c xs hc => by rw [upd_ne (at_ne e hc exo_tup), upd_ne (ne_of_none hc hnd)]; exact hc)
/-- self.f = y, a further one -/
theorem set_more (T : ExK X.K C) (I : Inv X pins σ H s) (e : H a = some (exo a C (some dx))) (ed : H dx = some (exd dx fs)) (hl : fs.length ≤ 900) (hno : NoAttr X.K C f) (ry : RelV y u)
    (h : ∀ s', Inv X pins σ (upd H dx (exd dx ((f, y) :: fs))) s' → Q () s') : wpAny (model X.prog X.w) A (setAttr (.ref a) f u) Q E s := by
  obtain ⟨B, newId, initId, bmB, _, SF, _, ho⟩ := T.b
  obtain ⟨t1, hx⟩ := exo_at I.hok e
  obtain ⟨mA, hns, rel⟩ := exd_at I.hok ed
  obtain ⟨cd, hc, hd'⟩ := any_some T.hd
  have hw := within_of rel
  obtain ⟨hp, g, d, t, os⟩ := s
  obtain ⟨oD, _, _, hoD, _, _⟩ := hns.count hw
  refine set_plain I.kIn (ox := { cls := .ref C, dict := some dx, data := .fields #[.ref t1, .none, .none, .none, .bool false, .none] }) (od := some oD) ⟨hx, rfl, rfl, hoD⟩ T.sa ?_
  refine osa_openX (s := ⟨hp, g, d, t + 1, os⟩) (od := some oD) SF I.kIn ⟨hx, rfl, rfl, hoD⟩ ho hno.taker fun b => ?_
  refine wpAny_bind (wpAny_pure (wpAny_bind (wpAny_bind (wpAny_loadPart hx (wpAny_bind ((looks_clsIn I.kIn hc).at ?_))))))
  rw [hd']
  refine wpAny_pure (a := some dx) ?_
  show wpAny _ _ (Builtin.ObjectAttr.storeInDict dx (.str f t) f u) _ _ _
  refine PySem.OEX.store_in_old hns hw (by rw [List.length_map]; omega) fun h' tk' hn hs => ?_
  have hd : ∃ o, h'.get? dx = some o := by
    obtain ⟨o, _, _, e', _⟩ := hn
    exact ⟨o, e'⟩
  exact h _ (I.write (t' := tk') (x := dx) (e := dx) (o := exd dx ((f, y) :: fs)) (by rw [ed]; exact True.intro) (.inl rfl) (fun b o hb q => (hs.2 b hb).trans q) hd (exd_ok hn (relO_put ry rel)))
end
/-- self.f = e of such an exception -/
def tSetX (K : PySem.W.Frag) (f : Str) (to te : TE) : TS := fun D σ H => te σ H fun y H1 => to σ H1 fun x H2 => ∃ a C : Addr, x = .ref a ∧ ExK K C ∧ NoAttr K C f ∧
  ((H2 a = some (exo a C none) ∧ ∀ dx, H2 dx = none → dx ≠ a → D.nx σ (upd (upd H2 dx (exd dx [(f, y)])) a (exo a C (some dx)))) ∨
    ∃ (dx : Addr) (fs : List (Str × V)), H2 a = some (exo a C (some dx)) ∧ H2 dx = some (exd dx fs) ∧ fs.length ≤ 900 ∧ D.nx σ (upd H2 dx (exd dx ((f, y) :: fs))))
/-- C(e, ..), the instance a value -/
def tMkX (C : Addr) (n m : Nat) (sp : Sp) (gV : List V → List V → List V) (t tk : TA) : TE := fun σ H Q => t σ H fun vs H1 => tk σ H1 fun zs H2 => vs.length = n ∧ zs.length = m ∧ n ≤ 1000 ∧
  ∀ a, H2 a = none → sp (gV (.ref a :: vs) zs) (upd H2 a (exo a C none)) (fun v H3 => v = .non ∧ Q (.ref a) H3) (fun _ _ _ => False)
section
variable {X : Cx} {CX : CXT} {k n : Nat} {fI C : Addr} {fd : FuncData} {ps ks : List Str} {sp : Sp} {x f : Str} {p p' pos : Pos} {e o : Expr} {es : List Expr} {kws : List Keyword} {to te : TE} {t tk : TA} {g : List Value → List Value → List Value} {gV : List V → List V → List V}
theorem ps_setX (ho : PE X o to) (he : PE X e te) (hs : swapsWith e (some (.Attribute o f p')) pos.line X.env = pure false := by rfl) : PS X (.Assign [.Attribute o f p'] e pos) (tSetX X.K f to te) := by
  refine ⟨fun pins s σ H D I h => ?_⟩
  refine plainObj_wpAny_Assign_Attribute (thn (he.run pins s σ H _ I h) fun v s1 ⟨y, H1, I1, r1, q1⟩ => thn (ho.run pins s1 σ H1 _ I1 q1) fun u s2 ⟨x, H2, I2, r2, a, C, ex, T, hno, q⟩ => ?_) hs
  subst ex
  obtain rfl : u = Value.ref a := r2
  rcases q with ⟨ea, q⟩ | ⟨dx, fs, ea, ed, hl, q⟩
  · exact set_new T I2 ea hno r1 fun dx s' n ne J => ⟨σ, _, J, q dx n ne⟩
  · exact set_more T I2 ea ed hl hno r1 fun s' J => ⟨σ, _, J, q⟩
theorem run_mkX {pins : List (Addr × Obj)} {σ : L2.St} {H : Hp} {s : Shared} {Q : VK} {us ws : List Value} {vs zs : List V} (T : ExK X.K C) (iC : PySem.W.findIn X.K (.ref C) "__init__" = some (some (.ref fI))) (tI : PySem.W.typeIn X.K (.ref fI) = some (.type "function"))
    (F : FnOk X.prog X.w X.K X.mg X.base CX k fI fd ps sp) (hr : Room (k + 1) X.A) (hb : KBn X.K fd ps (n + 1) ks g gV) (hx : Passes CX X (fun _ _ _ => False)) (I : Inv X pins σ H s) (r : Vals vs us) (rz : Vals zs ws) (l1 : vs.length = n) (l2 : zs.length = ks.length) (l3 : n ≤ 1000)
    (h : ∀ a, H a = none → sp (gV (.ref a :: vs) zs) (upd H a (exo a C none)) (fun v H3 => v = .non ∧ Q (.ref a) H3) (fun _ _ _ => False)) :
    wpAny (model X.prog X.w) X.A (call (.ref C) us (ks.zip ws)) (EP X pins σ Q) X.xe s := by
  obtain ⟨B, newId, initId, bmB, FB, _, hq, _⟩ := T.b
  obtain ⟨hp, gg, dr, tk, os⟩ := s
  obtain ⟨nm, N', qn, bs, bm, hdct, sn, sub, ab, col, dd, k0, k1, k2, k3, k5, hC, hT⟩ := excInit_of I.kIn hq
  have hsz : hp.objs.size ≤ hp.objs.size + 1 := Nat.le_succ _
  have hn : H (hp.objs.size + 1) = none := I.hok.fresh hsz
  have hq := h (hp.objs.size + 1) hn
  have kk : ∀ b o, hp.get? b = some o → ((hp.push (PySem.W.kdv_tup us)).push (PySem.HandSPX.excO C hp.objs.size)).get? b = some o := fun b o e => Heap.get?_push_of_some _ (Heap.get?_push_of_some _ e)
  have hget : ((hp.push (PySem.W.kdv_tup us)).push (PySem.HandSPX.excO C hp.objs.size)).get? (hp.objs.size + 1) = some (PySem.HandSPX.excO C hp.objs.size) := by heap_get
  have I2 : Inv X pins σ (upd H (hp.objs.size + 1) (exo (hp.objs.size + 1) C none)) ⟨(hp.push (PySem.W.kdv_tup us)).push (PySem.HandSPX.excO C hp.objs.size), gg, dr, tk, os⟩ :=
    I.laid (t' := tk) (a := hp.objs.size + 1) (o := exo (hp.objs.size + 1) C none) (h' := (hp.push (PySem.W.kdv_tup us)).push (PySem.HandSPX.excO C hp.objs.size)) kk hsz (exo_ok hget)
  have r1 : Vals (V.ref (hp.objs.size + 1) :: vs) (Value.ref (hp.objs.size + 1) :: us) := .cons rfl r
  have r2 := hb.rel r1 rz
  have n1 : (Value.ref (hp.objs.size + 1) :: us).length = n + 1 := by
    rw [List.length_cons, ← r.length, l1]
  have hus : us.length ≤ sizeLine := by
    rw [← r.length, sizeLine_eq]
    omega
  refine wpAny_call (call_kw FB hT hC (PySem.W.looks_findIn I.kIn iC) (fun self => PySem.W.bind_fn I.kIn self tI) hus
    (codeAny_mono (F.run _ X.stack _ _ ⟨Value.ref (hp.objs.size + 1) :: us, ks.zip ws⟩ (g (Value.ref (hp.objs.size + 1) :: us) ws) _ _ (fun _ _ _ => False) (hr.make C us (ks.zip ws)) (I2.env0.make C us (ks.zip ws))
      (hb.to _ (Value.ref (hp.objs.size + 1) :: us) ws I2.kIn n1 (rz.length.symm.trans l2)) r2 hq) fun r s' hq' => ?_))
  cases r with
  | error er => exact hx pins σ _ _ er s' I2 hq'
  | ok fl =>
    cases fl with
    | ret u =>
      obtain ⟨v, H', I3, rv, ev, q3⟩ := I2.after hq'
      subst ev
      exact ⟨rv, ⟨V.ref (hp.objs.size + 1), H', I3, rfl, q3⟩⟩
    | next => exact False.elim hq'
    | brk => exact False.elim hq'
    | cont => exact False.elim hq'
/-- a def without defaults, called by position alone -/
theorem kbn_of (hb : Binds X.K fd ps []) (hl : ps.length = n) : KBn X.K fd ps n [] (fun us _ => us) (fun vs _ => vs) :=
  ⟨fun s us ws KX h1 h2 => by
    have e : ws = [] := List.length_eq_zero_iff.mp h2
    subst e
    have z := hb s us KX (by rw [List.append_nil, h1, hl])
    rw [List.append_nil] at z
    exact z, fun r _ => r⟩
/-- C(e, ..) -/
theorem pe_mkX (T : ExK X.K C) (iC : PySem.W.findIn X.K (.ref C) "__init__" = some (some (.ref fI))) (tI : PySem.W.typeIn X.K (.ref fI) = some (.type "function"))
    (F : FnOk X.prog X.w X.K X.mg X.base CX k fI fd ps sp) (hr : Room (k + 1) X.A) (hg : Gl X x) (hm : X.mg x = some (.ref C)) (hb : Binds X.K fd ps []) (hl : ps.length = n + 1) (hx : Passes CX X (fun _ _ _ => False))
    (ha : PA X (e :: es) t) (hdb : (x == ("__debug__" : Str)) = false := by decide) (he : starEach (e :: es) X.env = (false, eval e X.env) :: starEach es X.env := by rfl) (hpl : (backTo pos (starEach es X.env)).any (·.1) = false := by rfl) :
    PE X (.Call (.Name x p) (e :: es) [] pos) (tMkX C n 0 sp (fun vs _ => vs) t tNil) := by
  refine ⟨fun pins s σ H Q I h => ?_⟩
  refine wpAny_Call_Name_kw (ld_glob I hg hm ?_ hdb)
  refine PySem.W.callWith_K (h₀ := X.base) I.ok.mod.kin T.kC (thn (ha.run pos pins s σ H _ I h) fun us s1 ⟨vs, H1, I1, r, q⟩ => ⟨I1.kIn, ?_⟩) he hpl
  obtain ⟨q1, q2, q3, q4⟩ := q
  exact run_mkX (ks := []) (ws := []) T iC tI F hr (kbn_of hb hl) hx I1 r .nil q1 rfl q3 q4
/-- C(f = e, ..) -/
theorem pe_mkXK (T : ExK X.K C) (iC : PySem.W.findIn X.K (.ref C) "__init__" = some (some (.ref fI))) (tI : PySem.W.typeIn X.K (.ref fI) = some (.type "function"))
    (F : FnOk X.prog X.w X.K X.mg X.base CX k fI fd ps sp) (hr : Room (k + 1) X.A) (hg : Gl X x) (hm : X.mg x = some (.ref C)) (hb : KBn X.K fd ps 1 ks g gV) (hx : Passes CX X (fun _ _ _ => False)) (hkw : PK X kws tk)
    (hall : (backToKw pos (keywordEach kws X.env)).all (·.1.isSome) = true := by rfl) (hks : (backToKw pos (keywordEach kws X.env)).filterMap (·.1) = ks := by rfl) (hdb : (x == ("__debug__" : Str)) = false := by decide)
    (hpl : ((backTo pos (starEach [] X.env)).any (·.1) || (backToKw pos (keywordEach kws X.env)).any (·.1.isNone)) = false := by rfl) :
    PE X (.Call (.Name x p) [] kws pos) (tMkX C 0 ks.length sp gV tNil tk) := by
  refine ⟨fun pins s σ H Q I h => ?_⟩
  refine wpAny_Call_Name_kw (ld_glob I hg hm ?_ hdb)
  refine PySem.W.callWith_KW0 (h₀ := X.base) I.ok.mod.kin T.kC hall ?_ hpl
  refine thn (hkw.run pos pins s σ H _ I h) fun ws s2 ⟨zs, H2, I2, rz, l1, l2, l3, q2⟩ => ⟨I2.kIn, ?_⟩
  rw [hks]
  exact run_mkX (us := []) (vs := []) T iC tI F hr hb hx I2 .nil rz rfl l2 (by decide) q2
/-- C(), a class without own __init__ -/
theorem pe_mkX0 {bmB : List Value} {B newId initId : String} (F : ExcBaseFacts B newId initId bmB) (q : PySem.W.excIn X.K C bmB newId = true) (hm : X.mg x = some (.ref C)) (kC : PySem.W.keepIn X.K (.ref C) = true) (hg : Gl X x) (hdb : (x == ("__debug__" : Str)) = false := by decide) :
    PE X (.Call (.Name x p) [] [] pos) (fun σ H Q => ∀ a, H a = none → Q (.ref a) (upd H a (ExO (.ref C) a))) := by
  refine ⟨fun pins s σ H Q I h => ?_⟩
  refine wpAny_Call_Name_kw (ld_glob I hg hm ?_ hdb)
  refine PySem.W.callWith_K0 I.kIn kC ?_
  show wpAny _ _ (call (.ref C) []) _ _ _
  obtain ⟨bm, N, nm, qn, bs, hdct, sn, sub, ab, col, dd, k0, k1, k2, k3, k5, mN, hC, hN, hni, T⟩ := exc_obj I.kIn q
  refine wpAny_call_exc_subT F T hC hN hni (fun h' a hm => ?_) (by show 0 ≤ sizeLine; exact Nat.zero_le _)
  have hn : H a = none := I.hok.gone hm.new
  obtain ⟨t, ht, _, _⟩ := hm.there
  exact ⟨.ref a, upd H a (ExO (.ref C) a), I.laidN hm.keeps hm.new hn (exO_ok ht ⟨rfl, rfl⟩ rfl rfl rfl (show 4 < 6 by decide)), rfl, h a hn⟩
end
end SX

/-! list.count of flat things; repr of things of any depth. -/
namespace SX
open PySem PySem.Spec PyProof.Rows PyProof.V L2 SF
section
variable {X : Cx}
theorem count_eqU {y : V} : ∀ {xs : List V} {us : List Value}, Vals xs us → xs.all flatV = true → us.countP (eqU y) = xs.countP (fun z => eqV z y)
  | _, _, .nil, _ => rfl
  | x :: xs, u :: us, .cons r t, f => by
    rw [List.all_cons, Bool.and_eq_true] at f
    rw [List.countP_cons, List.countP_cons, count_eqU t f.2, eqU_of r f.1]
/-- xs.count(y), flat -/
def rCountF (K : PySem.W.Frag) : V → List V → Hp → VK → Prop := fun x xs H Q => ∃ (a : Addr) (ys : List V) (y : V), x = .ref a ∧ xs = [y] ∧ SqL K H a ys ∧ flatV y = true ∧ ys.all flatV = true ∧ Q (.int (ys.countP (fun z => eqV z y) : Nat)) H
theorem mt_countF : MtR X "list.count" (rCountF X.K) := by
  intro pins s σ H x xs v us Q I rx rxs h
  obtain ⟨a, ys, y, rfl, rfl, hs, fy, fys, q⟩ := h
  cases rx
  obtain ⟨u, rfl, ru⟩ := rxs.one
  obtain ⟨its, rv, ⟨⟨cls, dd, data, sl⟩, n, ho, hc, hdn, hd⟩, hlen⟩ := I.list hs
  simp only at hc hd
  subst hc hd
  refine call_meets PySem.F.slot_list_count ⟨_, ho, rfl⟩ PySem.F.entry_list_count (PySem.F.args_list_count_2 _ _)
    (SeqAt.list_countAt a its.toArray n dd sl u (eqU y)) ⟨ho, fun u' hu' => mem_eqAt ru fy rv fys u' (by simpa using hu'), ?_⟩
  have ec : its.toArray.toList.countP (eqU y) = ys.countP (fun z => eqV z y) := count_eqU rv fys
  refine ⟨.int (ys.countP (fun z => eqV z y) : Nat), H, I.tok _, ⟨s.toks, ?_⟩, q⟩
  show Value.int ((its.toArray.toList.countP (eqU y) : Nat) : Int) s.toks = _
  rw [ec]
/-- a list's display; its place is told not to be the table of modules -/
def tLstS (t : TA) : TE := fun σ H Q => t σ H fun xs H1 => xs.length ≤ sizeLine ∧ ∀ p, H1 p = none → p ≠ sysModules → Q (.ref p) (upd H1 p (.lst xs))
theorem pe_lstS {es : List Expr} {pos : Pos} {t : TA} (h : PA X es t) : PE X (.List es pos) (tLstS t) := by
  refine ⟨fun pins s σ H Q I hq => ?_⟩
  refine wpAny_List_spliced (thn (h.run pos pins s σ H _ I hq) fun us s1 ⟨xs, H1, I1, r, z, q⟩ => ⟨by rw [← r.length]; exact z, ?_⟩)
  have hf : H1 s1.heap.objs.size = none := I1.hok.fresh (Nat.le_refl _)
  refine ⟨.ref s1.heap.objs.size, upd H1 s1.heap.objs.size (.lst xs), I1.laid (t' := s1.toks) (fun b u e => Heap.get?_push_of_some _ e) (Nat.le_refl _) ?_, rfl, q _ hf (Nat.ne_of_gt I1.big)⟩
  exact ⟨z, us, 0, r, Heap.get?_push_size _ rfl⟩
end
/-! ### repr of things of any depth -/
def keyD : Key → PyData
  | .inl i => .int i
  | .inr x => .str x
mutual
/-- what stands there, lists and dicts apart from the table of modules -/
inductive Sd (H : Hp) : V → PyData → Prop
  | non : Sd H .non .none
  | bl (b : Bool) : Sd H (.bl b) (.bool b)
  | int (i : Int) : Sd H (.int i) (.int i)
  | str (x : Str) : Sd H (.str x) (.str x)
  | lst {a : Addr} {xs : List V} {ds : List PyData} : a ≠ sysModules → H a = some (.lst xs) → SdAll H xs ds → Sd H (.ref a) (.list ds)
  | tup {a : Addr} {xs : List V} {ds : List PyData} : H a = some (.tup xs) → SdAll H xs ds → Sd H (.ref a) (.tuple ds)
  | dct {a : Addr} {kvs : List (Key × V)} {D : List (PyData × PyData)} : H a = some (.dK kvs) → SdP H kvs D → Sd H (.ref a) (.dict D)
inductive SdAll (H : Hp) : List V → List PyData → Prop
  | nil : SdAll H [] []
  | cons {v : V} {vs : List V} {d : PyData} {ds : List PyData} : Sd H v d → SdAll H vs ds → SdAll H (v :: vs) (d :: ds)
inductive SdP (H : Hp) : List (Key × V) → List (PyData × PyData) → Prop
  | nil : SdP H [] []
  | cons {k : Key} {v : V} {kvs : List (Key × V)} {d : PyData} {D : List (PyData × PyData)} : Sd H v d → SdP H kvs D → SdP H ((k, v) :: kvs) ((keyD k, d) :: D)
end
mutual
theorem Sd.same {H H' : Hp} (s : ∀ b o, H b = some o → H' b = some o) : ∀ {v : V} {d : PyData}, Sd H v d → Sd H' v d
  | _, _, .non => .non
  | _, _, .bl b => .bl b
  | _, _, .int i => .int i
  | _, _, .str x => .str x
  | _, _, .lst n e h => .lst n (s _ _ e) (SdAll.same s h)
  | _, _, .tup e h => .tup (s _ _ e) (SdAll.same s h)
  | _, _, .dct e h => .dct (s _ _ e) (SdP.same s h)
theorem SdAll.same {H H' : Hp} (s : ∀ b o, H b = some o → H' b = some o) : ∀ {vs : List V} {ds : List PyData}, SdAll H vs ds → SdAll H' vs ds
  | _, _, .nil => .nil
  | _, _, .cons a b => .cons (Sd.same s a) (SdAll.same s b)
theorem SdP.same {H H' : Hp} (s : ∀ b o, H b = some o → H' b = some o) : ∀ {vs : List (Key × V)} {ds : List (PyData × PyData)}, SdP H vs ds → SdP H' vs ds
  | _, _, .nil => .nil
  | _, _, .cons a b => .cons (Sd.same s a) (SdP.same s b)
end
theorem keyReads {P : Program} {w : World} {h : Heap} (k : Key) (key : Value) (e : (mixKind P w).is k key = true) : Reads h key (keyD k) [] := by
  rcases keyIs_shape (show keyIs k key = true from e) with ⟨i, t, rfl, rfl⟩ | ⟨x, t, rfl, rfl⟩
  · exact .int i t
  · exact .str x t
section
variable {P : Program} {w : World} {H : Hp} {h : Heap}
mutual
theorem Sd.reads (ok : HOk P w H h) : ∀ {v : V} {d : PyData} {u : Value}, Sd H v d → RelV v u → ∃ as, Reads h u d as ∧ sysModules ∉ as
  | _, _, _, .non, r => by cases (show _ = Value.none from r); exact ⟨_, .none, by simp⟩
  | _, _, _, .bl b, r => by cases (show _ = Value.bool b from r); exact ⟨_, .bool b, by simp⟩
  | _, _, u, .int i, r => by obtain ⟨t, rfl⟩ := (show ∃ t, u = Value.int i t from r); exact ⟨_, .int i t, by simp⟩
  | _, _, u, .str x, r => by obtain ⟨t, rfl⟩ := (show ∃ t, u = Value.str x t from r); exact ⟨_, .str x t, by simp⟩
  | _, _, u, .lst (a := a) (xs := xs) n e q, r => by
    cases (show u = Value.ref a from r)
    obtain ⟨_, its, m, rv, e1⟩ := (show ObjOk P w H h a (.lst xs) from ok a _ e)
    obtain ⟨as, b, z⟩ := SdAll.reads ok q rv
    exact ⟨_, .list e1 rfl rfl (by simpa using b), by simp [Ne.symm n, z]⟩
  | _, _, u, .tup (a := a) (xs := xs) e q, r => by
    cases (show u = Value.ref a from r)
    obtain ⟨_, its, rv, o, e1, e2, m, e3⟩ := (show ObjOk P w H h a (.tup xs) from ok a _ e)
    obtain ⟨as, b, z⟩ := SdAll.reads ok q rv
    exact ⟨_, .tuple e1 e2 e3 (by simpa using b), z⟩
  | _, _, u, .dct (a := a) (kvs := kvs) e q, r => by
    cases (show u = Value.ref a from r)
    obtain ⟨_, hm, vs, rv, e1⟩ := (show ObjOk P w H h a (.dK kvs) from ok a _ e)
    obtain ⟨bs, b, z⟩ := SdP.reads ok q rv
    have na : sysModules ≠ a := fun y => by rw [y] at hm; simp at hm
    exact ⟨_, reads_dictOf (keyReads (P := P) (w := w)) e1 b, by simp [na, z]⟩
theorem SdAll.reads (ok : HOk P w H h) : ∀ {vs : List V} {ds : List PyData} {us : List Value}, SdAll H vs ds → Vals vs us → ∃ as, ReadsAll h us ds as ∧ sysModules ∉ as
  | _, _, _, .nil, .nil => ⟨_, .nil, by simp⟩
  | _, _, _, .cons a b, .cons r t => by
    obtain ⟨as, h1, z1⟩ := Sd.reads ok a r
    obtain ⟨bs, h2, z2⟩ := SdAll.reads ok b t
    exact ⟨_, .cons h1 h2, by simp [z1, z2]⟩
theorem SdP.reads (ok : HOk P w H h) : ∀ {kvs : List (Key × V)} {D : List (PyData × PyData)} {vs : List (Key × Value)}, SdP H kvs D → KV kvs vs → ∃ bs, PairsRead h keyD vs D bs ∧ sysModules ∉ bs
  | _, _, _, .nil, .nil => ⟨_, .nil, by simp⟩
  | (k, v) :: _, _, (k', u) :: _, .cons a b, .cons r t => by
    obtain ⟨rk, rv⟩ := r
    dsimp only at rk rv
    subst rk
    obtain ⟨as, h1, z1⟩ := Sd.reads ok a rv
    obtain ⟨bs, h2, z2⟩ := SdP.reads ok b t
    exact ⟨_, .cons h1 h2, by simp [z1, z2]⟩
end
end
section
variable {X : Cx}
/-- repr of a list, a tuple or a dict -/
def rReprS : List V → Hp → VK → Prop := fun xs H Q => ∃ (a : Addr) (d : PyData), xs = [V.ref a] ∧ Sd H (.ref a) d ∧ d.showable = true ∧ d.depth ≤ 8 ∧ d.shown.length ≤ sizeLine ∧ Q (.str d.shown) H
theorem call_reprS {k : Nat} (hg : X.A.guards = some []) (hr : Room k X.A) : CallR X (.builtin "repr") rReprS := by
  intro pins s σ H xs us Q I r h
  obtain ⟨a, d, rfl, hd, h1, h2, h3, q⟩ := h
  obtain ⟨u, rfl, ru⟩ := r.one
  cases (show u = Value.ref a from ru)
  obtain ⟨as, R, hm⟩ := Sd.reads I.hok hd (u := .ref a) rfl
  refine repr_of_reads' R h1 (fun _ => hm) hg (by have := hr.units; omega) (fun _ _ e => e) (fun h' u tk hk => ?_) h3
  exact ⟨.str _, H, I.kept hk, ⟨u, rfl⟩, q⟩
end
end SX

/-! The error in hand: its class, its fields. -/
namespace SFT
open PySem PySem.Spec PyProof.Rows L2 SF L2H SX
/-- what the error's dict holds -/
def EdOk (H : Hp) (d : Option Addr) (fs : List (Str × V)) : Prop := (d = none ∧ fs = []) ∨ ∃ dd, d = some dd ∧ H dd = some (.xd fs)
theorem EdOk.same {H H' : Hp} {d : Option Addr} {fs : List (Str × V)} (h : EdOk H d fs) (s : ∀ b o, H b = some o → H' b = some o) : EdOk H' d fs := by
  rcases h with h | ⟨dd, e, h⟩
  · exact .inl h
  · exact .inr ⟨dd, e, s _ _ h⟩
section
variable {X : Cx} {a D : Addr} {oe : Obj} {d : Option Addr} {cls : Value}
theorem ed_inst {pins : List (Addr × Obj)} {σ : L2.St} {H : Hp} {s : Shared} {fs : List (Str × V)} (I : Inv X pins σ H s) (hz : Zc (.ref D) d oe) (hf : ∃ vs, oe.data = .fields vs) (hp : (a, oe) ∈ X.pn) (h : EdOk H d fs) :
    ∃ od : Option Obj, PySem.W.InstAt s.heap a oe D od ∧ ∀ f v, fs.lookup f = some v → ∃ o u, od = some o ∧ PySem.W.lookIn f o = some (some u) ∧ RelV v u := by
  obtain ⟨hget, _⟩ := I.pin (a, oe) (List.mem_append.mpr (.inl hp))
  obtain ⟨vs, hv⟩ := hf
  rcases h with ⟨rfl, rfl⟩ | ⟨dd, rfl, h⟩
  · refine ⟨none, ⟨hget, hz.1, by unfold PySem.W.notCls; rw [hv] <;> rfl, by rw [hz.2]; trivial⟩, fun f v e => by cases e⟩
  · obtain ⟨mA, hns, hr⟩ := (show ObjOk X.prog X.w H s.heap dd (.xd fs) from I.hok dd _ h)
    obtain ⟨od, ho, hl⟩ := lookIn_ns hns
    refine ⟨some od, ⟨hget, hz.1, by unfold PySem.W.notCls; rw [hv] <;> rfl, by rw [hz.2]; exact ho⟩, fun f v e => ?_⟩
    obtain ⟨u, hu, ru⟩ := RelO.some_of (v := v) (o := mA f) (by rw [← e]; exact hr f)
    exact ⟨od, u, rfl, by rw [hl, hu], ru⟩
/-- isinstance(e, C) -/
def rIsP (K : PySem.W.Frag) (a D : Addr) (d : Option Addr) : List V → Hp → VK → Prop := fun xs H Q => ∃ (c : V) (u : Value) (b : Bool) (fs : List (Str × V)), xs = [.ref a, c] ∧ ClsV c u ∧ EdOk H d fs ∧ PySem.W.kitOne K (.ref D) u = some b ∧ Q (.bl b) H
theorem call_isP2 (C : ExcC X.K D) (hz : Zc (.ref D) d oe) (hf : ∃ vs, oe.data = .fields vs) (hp : (a, oe) ∈ X.pn) : CallR X (.builtin "isinstance") (rIsP X.K a D d) := by
  intro pins s σ H xs us Q I r h
  obtain ⟨c, u, b, fs, rfl, k, ed, e, q⟩ := h
  obtain ⟨u1, u2, rfl, r1, r2⟩ := vals2 r
  have e2 := k.eq r2
  subst e2
  cases (show u1 = Value.ref a from r1)
  obtain ⟨od, J, _⟩ := ed_inst I hz hf hp ed
  exact PySem.W.kia_one (kit_exc C) I.kIn J e (fun z => nomatch z) fun tk => ⟨.bl b, H, I.tok tk, rfl, q⟩
/-- e.f -/
def tFldP (a : Addr) (d : Option Addr) (f : Str) (te : TE) : TE := fun σ H Q => te σ H fun x H1 => ∃ (fs : List (Str × V)) (v : V), x = .ref a ∧ EdOk H1 d fs ∧ fs.lookup f = some v ∧ Q v H1
theorem pe_fldP {e : Expr} {te : TE} {pos : Pos} {n : Str} (T : XfC X.K D) (hno : PySem.W.findIn X.K (.ref D) n = some none) (hz : Zc (.ref D) d oe) (hf : ∃ vs, oe.data = .fields vs) (hp : (a, oe) ∈ X.pn) (he : PE X e te) (hb : attributeBase e n X.env (eval e X.env) = eval e X.env := by rfl) :
    PE X (.Attribute e n pos) (tFldP a d n te) := by
  refine ⟨fun pins s σ H Q I h => ?_⟩
  refine attr_of hb (thn (he.run pins s σ H _ I h) fun u s1 hh => ?_)
  obtain ⟨x, H1, I1, rx, fs, v, rfl, ed, l, q⟩ := hh
  obtain rfl : u = Value.ref a := rx
  obtain ⟨od, J, hl⟩ := ed_inst I1 hz hf hp ed
  obtain ⟨o, u, rfl, hu, ru⟩ := hl n v l
  exact HandSPX.exc_get I1.kIn J T.ga T.gg T.exC (PySem.W.findObj_own T.hdC hno rfl hu) (handed_of ru) ⟨v, H1, I1.tok _, ru, q⟩
theorem call_reprH {k : Nat} (hg : X.A.guards = some []) (hr : RoomH k X.A) : CallR X (.builtin "repr") rReprS := by
  intro pins s σ H xs us Q I r h
  obtain ⟨a, d, rfl, hd, h1, h2, h3, q⟩ := h
  obtain ⟨u, rfl, ru⟩ := r.one
  cases (show u = Value.ref a from ru)
  obtain ⟨as, R, hm⟩ := Sd.reads I.hok hd (u := .ref a) rfl
  refine repr_of_reads' R h1 (fun _ => hm) hg (by have := hr.un; omega) (fun _ _ e => e) (fun h' u tk hk => ?_) h3
  exact ⟨.str _, H, I.kept hk, ⟨u, rfl⟩, q⟩
end
/-! ### a def of the text -/
section
variable {P : Program} {w : World} {K : PySem.W.Frag} {mg : Str → Option Value} {base : Heap}
theorem Fun.okP {x qual : Str} {st : Stmt} {f : Addr} {fd : FuncData} {N ps : List Str} {k : Nat} {sp : Sp} {p : Addr × Obj} (F : Fun K x qual st f fd) (S : FnScope N ps (defScope st)) (len : ∀ vs H Q E, sp vs H Q E → vs.length = ps.length)
    (hbody : ∀ (cdv : Value) (A : Around) (outer : List Env) (s : Shared) (H : Hp) (vs : List V) (Q : VK) (E : XK), A.guards = some [] → RoomH k (A.deeper (envOfC qual (defScope st) s.heap.objs.size f cdv)) → sp vs H Q E →
      ∃ t, PSs (cxH CX0 P w K mg base N qual (defScope st) f cdv A outer s H E p).nox (defBody st) t ∧ t { nx := fun _ H' => Q .non H', rt := Q } (start N vs) H) : FnP P w K mg base CX0 (k + 1) p f fd ps sp := by
  obtain ⟨oc, od, kV, doc, pm, an, cdv, ct, osl, rfl, lk, hcd⟩ := F.ex
  refine fn_ofP lk hcd S len fun A outer s H vs Q E hgd hr hsp => ?_
  obtain ⟨t, h, q⟩ := hbody cdv A outer s H vs Q E hgd hr hsp
  exact ⟨t, h.nox, q⟩
end
theorem passA {X : Cx} {σ : L2.St} : PassesAt CX0 X σ E0 := fun _ _ _ _ _ _ h => h.elim
/-! ### the twelve classes of errors -/
def cnms : List Str := ["InvalidNumber", "InvalidText", "InvalidCount", "InvalidName", "InvalidTruth", "InvalidEntries", "NotAFormula", "TextError", "UnknownName", "Clash", "DividedByZero", "TooLarge"]
def cnm (i : Nat) : Str := cnms.getD i ""
def cbns : List Str := ["GivenError", "NameProblem", "AnswerError"]
/-- the field that is asked of an error -/
def cfl (i : Nat) : Str := if i = 7 then "place" else if i = 11 then "limit" else "given"
def cfs : List Str := ["given", "place", "limit"]
structure CErr (K : PySem.W.Frag) (mg : Str → Option Value) (cs bs : Nat → Addr) : Prop where
  g : ∀ i, i < 12 → mg (cnm i) = some (.ref (cs i))
  gb : ∀ j, j < 3 → mg (cbns.getD j "") = some (.ref (bs j))
  ex : ∀ i, i < 12 → ExcC K (cs i)
  xf : ∀ i, i < 12 → XfC K (cs i)
  no : ∀ i, i < 12 → ∀ f ∈ cfs, PySem.W.findIn K (.ref (cs i)) f = some none
  kit : ∀ i j, i < 12 → j < 12 → PySem.W.kitOne K (.ref (cs i)) (.ref (cs j)) = some (decide (i = j))
  cat : ∀ i, i < 12 → PySem.W.exmAny K (.ref (cs i)) [.ref (bs 0), .ref (bs 1), .ref (bs 2)] = some true
  isi : mg "isinstance" = none
  rep : mg "repr" = none
/-- what a caught error is shown by -/
def given (i : Nat) (fs : List (Str × V)) : Option (List V) := if i = 10 then some [] else (fs.lookup (cfl i)).map fun v => [v]
end SFT
namespace SFT
open PySem PySem.Spec PyProof.Rows L2 SF L2H SX
/-- what is shown, behind its word -/
def tShow (told : Str) (R : List V → Hp → VK → Prop) (Q : VK) (v : V) (H : Hp) : Prop := R [v] H (fun z H1 => ∃ s, z = .str s ∧ ∀ L H2, (∀ b o, H1 b = some o → H2 b = some o) → H1 L = none → H2 L = some (.lst [.str told, .str s]) → Q (.ref L) H2)
/-- the error's wish -/
def XKc (cs : Nat → Addr) (R : List V → Hp → VK → Prop) (Q : VK) : XK := fun cls d H1 => ∃ (i : Nat) (fs : List (Str × V)) (ys : List V), i < 12 ∧ cls = .ref (cs i) ∧ EdOk H1 d fs ∧ given i fs = some ys ∧ ∀ p H2, (∀ b o, H1 b = some o → H2 b = some o) → H2 p = some (.tup ys) → tShow (cnm i) R Q (.ref p) H2
/-- told, or the error that was caught -/
def TTc (cs : Nat → Addr) (RV RP : List V → Hp → VK → Prop) : (XK → Hp → VK → Prop) → Hp → VK → Prop := fun tl H Q => ∀ Q0 : VK, (∀ v H1, tShow "told" RV Q v H1 → Q0 v H1) → tl (XKc cs RP Q) H Q0
def Mono (R : List V → Hp → VK → Prop) : Prop := ∀ (xs : List V) (H : Hp) (Q Q' : VK), (∀ v H', Q v H' → Q' v H') → R xs H Q → R xs H Q'
theorem FnP.mono {P : Program} {w : World} {K : PySem.W.Frag} {mg : Str → Option Value} {base : Heap} {CX : CXT} {k k' : Nat} {p : Addr × Obj} {f : Addr} {fd : FuncData} {ps : List Str} {sp : Sp} (F : FnP P w K mg base CX k p f fd ps sp) (h : k ≤ k') : FnP P w K mg base CX k' p f fd ps sp :=
  ⟨F.len, fun A outer s H args us vs Q E hg hr => F.run A outer s H args us vs Q E hg (hr.mono h)⟩
theorem mono_reprS : Mono rReprS := fun xs H Q Q' h ⟨a, d, e, h1, h2, h3, h4, q⟩ => ⟨a, d, e, h1, h2, h3, h4, h _ _ q⟩
theorem pss_of {X : Cx} {st : List Stmt} {t' : TS} (h : ∀ pins s σ H D, Inv X pins σ H s → t' D σ H → ∃ t, PSs X st t ∧ t D σ H) : PSs X st t' := ⟨fun pins s σ H D I x => let ⟨_, p, y⟩ := h pins s σ H D I x; p.run pins s σ H D I y⟩
theorem len4 {α : Type} {σ : List α} (h : σ.length = 4) : ∃ a b c d, σ = [a, b, c, d] := by
  match σ, h with
  | [a, b, c, d], _ => exact ⟨a, b, c, d, rfl⟩
end SFT
namespace SFT
open PySem PySem.Spec PyProof.Rows L2
/-- the twelve classes of errors, their three bases: one truth value over the written part -/
def exB1 (K : PySem.W.Frag) (D : Addr) : Bool := decide (PySem.W.findIn K (.ref D) "__getattribute__" = some (some (.builtin "BaseException.__getattribute__"))) && (decide (PySem.W.findIn K (.ref D) "__getattr__" = some none) && (decide (PySem.W.subIn K (.ref D) (.type "BaseException") = some true) && (PySem.W.hasDictIn K D &&
  (decide (PySem.W.findIn K (.ref D) "__class__" = some (some (.builtin "object.__class__"))) && (decide (PySem.W.specialIn K (.builtin "object.__class__") "__get__" = some (some (.builtin "getset_descriptor.__get__"))) && (decide (PySem.W.takesIn K (.builtin "object.__class__") = some true) && decide (PySem.W.mroIn K D (.type "object") = some true)))))))
theorem exB1_ok {K : PySem.W.Frag} {D : Addr} (h : exB1 K D = true) : ExcC K D ∧ XfC K D := by
  unfold exB1 at h
  simp only [Bool.and_eq_true, decide_eq_true_eq] at h
  obtain ⟨h1, h2, h3, h4, h5, h6, h7, h8⟩ := h
  exact ⟨⟨h1, h2, h3, h4, h5, h6, h7, h8⟩, ⟨h1, h2, h3, h4⟩⟩
def upB (n : Nat) (p : Nat → Bool) : Bool := (List.range n).all p
theorem upB_ok {n : Nat} {p : Nat → Bool} (h : upB n p = true) : ∀ i, i < n → p i = true := fun i hi => List.all_eq_true.mp h i (List.mem_range.mpr hi)
def cerrB (K : PySem.W.Frag) (cs bs : List Addr) : Bool :=
  upB 12 (fun i => exB1 K (cs.getD i 0)) && (upB 12 (fun i => cfs.all fun f => decide (PySem.W.findIn K (.ref (cs.getD i 0)) f = some none)) && (upB 12 (fun i => upB 12 fun j => decide (PySem.W.kitOne K (.ref (cs.getD i 0)) (.ref (cs.getD j 0)) = some (decide (i = j)))) &&
    upB 12 (fun i => decide (PySem.W.exmAny K (.ref (cs.getD i 0)) [.ref (bs.getD 0 0), .ref (bs.getD 1 0), .ref (bs.getD 2 0)] = some true))))
theorem cerrB_ok {K : PySem.W.Frag} {mg : Str → Option Value} {cs bs : List Addr} (h : cerrB K cs bs = true) (g : ∀ i, i < 12 → mg (cnm i) = some (.ref (cs.getD i 0))) (gb : ∀ j, j < 3 → mg (cbns.getD j "") = some (.ref (bs.getD j 0))) (hi : mg "isinstance" = none) (hr : mg "repr" = none) :
    CErr K mg (fun i => cs.getD i 0) (fun j => bs.getD j 0) := by
  obtain ⟨h1, h⟩ := Bool.and_eq_true_iff.mp h
  obtain ⟨h2, h⟩ := Bool.and_eq_true_iff.mp h
  obtain ⟨h3, h4⟩ := Bool.and_eq_true_iff.mp h
  exact { g := g, gb := gb, ex := fun i hi => (exB1_ok (upB_ok h1 i hi)).1, xf := fun i hi => (exB1_ok (upB_ok h1 i hi)).2, no := fun i hi f hf => of_decide_eq_true (List.all_eq_true.mp (upB_ok h2 i hi) f hf), kit := fun i j hi hj => of_decide_eq_true (upB_ok (upB_ok h3 i hi) j hj), cat := fun i hi => of_decide_eq_true (upB_ok h4 i hi), isi := hi, rep := hr }
end SFT

/-! Defs that let an own error out: the error as an expression's only end. -/
namespace SQ
open PySem PySem.Spec PyProof.Rows L2 SF
section
variable {P : Program} {w : World} {K : PySem.W.Frag} {mg : Str → Option Value} {base : Heap}
theorem Fun.okX {CX : CXT} {x qual : Str} {st : Stmt} {f : Addr} {fd : FuncData} {N ps : List Str} {k : Nat} {sp : Sp} (F : Fun K x qual st f fd) (S : FnScope N ps (defScope st)) (len : ∀ vs H Q E, sp vs H Q E → vs.length = ps.length)
    (hbody : ∀ (cdv : Value) (A : Around) (outer : List PySem.Env) (s : Shared) (H : Hp) (vs : List V) (Q : VK) (E : XK), Room k (A.deeper (envOfC qual (defScope st) s.heap.objs.size f cdv)) → sp vs H Q E →
      ∃ t, PSs (cxOf CX P w K mg base N qual (defScope st) f cdv A outer s H E) (defBody st) t ∧ t { nx := fun _ H' => Q .non H', rt := Q } (start N vs) H) : FnOk P w K mg base CX (k + 1) f fd ps sp := by
  obtain ⟨oc, od, kV, doc, pm, an, cdv, ct, osl, rfl, lk, hcd⟩ := F.ex
  exact fn_of lk hcd S len fun A outer s H vs Q E hr hsp => hbody cdv A outer s H vs Q E hr hsp
end
section
variable {X : Cx} {C : Addr} {bmB : List Value} {B newId initId : String}
/-- X() -/
theorem pmk_own0 {x : Str} {p pos : Pos} (F : ExcBaseFacts B newId initId bmB) (q : PySem.W.excIn X.K C bmB newId = true) (gC : X.mg x = some (.ref C)) (kC : PySem.W.keepIn X.K (.ref C) = true) (r : Raises X (.ref C)) (hg : Gl X x)
    (hdb : (x == ("__debug__" : Str)) = false := by decide) : PMk X (.Call (.Name x p) [] [] pos) (fun _ H Q => Q (.ref C) none H) := by
  intro pins s σ H Q I h
  refine wpAny_Call_Name_kw (ld_glob I hg gC ?_ hdb)
  refine PySem.W.callWith_K0 I.kIn kC ?_
  show wpAny _ _ (call (.ref C) []) _ _ _
  obtain ⟨bm, N, nm, qn, bs, hdct, sn, sub, ab, col, dd, k0, k1, k2, k3, k5, mN, hC, hN, hni, T⟩ := exc_obj I.kIn q
  refine wpAny_call_exc_subT F T hC hN hni (fun h' e hm => ?_) (by show 0 ≤ sizeLine; exact Nat.zero_le _)
  exact mk_of I hm r h (I.hok.gone hm.new)
end
/-- e lets the error of the class at D out -/
def TZ (E : XK) (D : Addr) (G : L2.St → Hp → Prop) (s : Prop) : TE := fun σ H _ => G σ H ∧ s ∧ ∀ H', Same H H' → E (.ref D) none H'
def spZI (D : Addr) : Sp := fun vs H _ E => ∃ (p : Addr) (t : Int), vs = [.ref p, .int t, .int 0] ∧ ∀ H', Same H H' → E (.ref D) none H'
def spZ1 (C D : Addr) : Sp := fun vs H _ E => ∃ a n, vs = [.ref a] ∧ RQ C H a n 0 ∧ n ≤ LIM ∧ ∀ H', Same H H' → E (.ref D) none H'
def spZ2 (C D : Addr) : Sp := fun vs H _ E => ∃ a b n m q, vs = [.ref a, .ref b] ∧ RQ C H a n q ∧ RQ C H b m 0 ∧ n ≤ LIM ∧ m ≤ LIM ∧ ∀ H', Same H H' → E (.ref D) none H'
/-- a fraction, and the number 0 -/
def spZM (C D : Addr) : Sp := fun vs H _ E => ∃ a k v n m q, vs = [.ref a, v] ∧ RQ C H a n q ∧ NV C H k v m 0 ∧ n ≤ LIM ∧ m ≤ LIM ∧ ∀ H', Same H H' → E (.ref D) none H'
/-- the fraction 0, and a number -/
def spZR (C D : Addr) : Sp := fun vs H _ E => ∃ a k v n m q, vs = [.ref a, v] ∧ RQ C H a n 0 ∧ NV C H k v m q ∧ n ≤ LIM ∧ m ≤ LIM ∧ ∀ H', Same H H' → E (.ref D) none H'
def spZP (C D : Addr) : Sp := fun vs H _ E => ∃ a n e, vs = [.ref a, .int e] ∧ RQ C H a n 0 ∧ -20 ≤ e ∧ e < 0 ∧ n ≤ LIM ∧ ∀ H', Same H H' → E (.ref D) none H'
section
variable {X : Cx} {C D : Addr} {E : XK} {CX : CXT} {G : L2.St → Hp → Prop} {a b e : Expr} {k k1 k2 : Bool} {n m : Nat} {q r : Rat} {s s1 s2 : Prop} {pos p1 p2 : Pos} {l : Nat} {x : Str} {ps : List Str} {fd : FuncData} {f : Addr}
/-- the second argument fails -/
theorem pz_call2 {side : Rat → Rat → Prop} {fn : Rat → Rat → Rat} {g : Nat → Nat → Nat} (F : FnOk X.prog X.w X.K X.mg X.base CX0 l f fd ps (sp2 C side fn g)) (hr : Room l X.A) (hg : Gl X x) (hm : X.mg x = some (.ref f)) (hk : PySem.W.keepIn X.K (.ref f) = true) (hb : Binds X.K fd ps []) (hG : GS G)
    (ha : PE X a (TQ C G k n q s1)) (hb' : PE X b (TZ E D G s2)) (hdb : (x == ("__debug__" : Str)) = false := by decide)
    (he : starEach (a :: [b]) X.env = (false, eval a X.env) :: starEach [b] X.env := by rfl) (he2 : starEach (b :: []) X.env = (false, eval b X.env) :: starEach [] X.env := by rfl) (hpl : (backTo pos (starEach [b] X.env)).any (·.1) = false := by rfl) :
    PE X (.Call (.Name x p1) [a, b] [] pos) (TZ E D G (s1 ∧ s2)) :=
  pe_weak (pe_call (E := E0) F hr hg hm hk hb .nil pass0 (pa_cons ha (pa_cons hb' pa_nil he2) he) hdb he hpl) fun σ H Q ⟨hg, ⟨h1, h2⟩, z⟩ => ⟨hg, h1, fun v H1 S1 nv => ⟨hG _ _ _ hg S1, h2, fun H2 S2 => z H2 (S1.trans S2)⟩⟩
theorem pz_un (ha : PE X a (TZ E D G s1)) : PE X (.UnaryOp .USub a pos) (TZ E D G s1) := pe_weak (pe_un un_neg ha) fun σ H Q h => h
theorem pz_callZ1 (F : FnOk X.prog X.w X.K X.mg X.base CX l f fd ps (spZ1 C D)) (hx : Passes CX X E) (hr : Room l X.A) (hg : Gl X x) (hm : X.mg x = some (.ref f)) (hk : PySem.W.keepIn X.K (.ref f) = true) (hb : Binds X.K fd ps [])
    (ha : PE X a (TQ C G true n 0 s1)) (hdb : (x == ("__debug__" : Str)) = false := by decide)
    (he : starEach (a :: []) X.env = (false, eval a X.env) :: starEach [] X.env := by rfl) (hpl : (backTo pos (starEach [] X.env)).any (·.1) = false := by rfl) : PE X (.Call (.Name x p1) [a] [] pos) (TZ E D G (s1 ∧ n ≤ LIM)) :=
  pe_weak (pe_call (E := E) F hr hg hm hk hb .nil hx (pa_cons ha pa_nil he) hdb he hpl) fun σ H Q ⟨hg, ⟨h1, h2⟩, z⟩ => ⟨hg, h1, fun v H1 S1 nv => by
    obtain ⟨a, rfl, y⟩ := nv_true nv
    exact ⟨a, n, rfl, y, h2, fun H2 S2 => z H2 (S1.trans S2)⟩⟩
theorem pz_callZ2 (F : FnOk X.prog X.w X.K X.mg X.base CX l f fd ps (spZ2 C D)) (hx : Passes CX X E) (hr : Room l X.A) (hg : Gl X x) (hm : X.mg x = some (.ref f)) (hk : PySem.W.keepIn X.K (.ref f) = true) (hb : Binds X.K fd ps []) (hG : GS G)
    (ha : PE X a (TQ C G true n q s1)) (hb' : PE X b (TQ C G true m 0 s2)) (hdb : (x == ("__debug__" : Str)) = false := by decide)
    (he : starEach (a :: [b]) X.env = (false, eval a X.env) :: starEach [b] X.env := by rfl) (he2 : starEach (b :: []) X.env = (false, eval b X.env) :: starEach [] X.env := by rfl) (hpl : (backTo pos (starEach [b] X.env)).any (·.1) = false := by rfl) :
    PE X (.Call (.Name x p1) [a, b] [] pos) (TZ E D G (s1 ∧ s2 ∧ n ≤ LIM ∧ m ≤ LIM)) :=
  pe_weak (pe_call (E := E) F hr hg hm hk hb .nil hx (pa_cons ha (pa_cons hb' pa_nil he2) he) hdb he hpl) fun σ H Q ⟨hg, ⟨h1, h2, h3, h4⟩, z⟩ => ⟨hg, h1, fun v H1 S1 nv => ⟨hG _ _ _ hg S1, h2, fun u H2 S2 nu => by
    obtain ⟨a, rfl, y⟩ := nv_true nv
    obtain ⟨b, rfl, y'⟩ := nv_true nu
    exact ⟨a, b, n, m, q, rfl, y.same S2, y', h3, h4, fun H3 S3 => z H3 ((S1.trans S2).trans S3)⟩⟩⟩
/-- Ratio(e, 0) -/
theorem pz_make {i : Int} (M : Mk X.K C f) (F : FnOk X.prog X.w X.K X.mg X.base CX l f fd ["self", "top", "bottom"] (spZI D)) (hx : Passes CX X E) (hb : Binds X.K fd ["self", "top", "bottom"] []) (hr : Room (l + 1) X.A) (hg : Gl X x) (hm : X.mg x = some (.ref C)) (hG : GS G)
    (ha : PE X a (TI G i s1)) (hb' : PE X b (TI G 0 s2)) (hdb : (x == ("__debug__" : Str)) = false := by decide)
    (he : starEach (a :: [b]) X.env = (false, eval a X.env) :: starEach [b] X.env := by rfl) (he2 : starEach (b :: []) X.env = (false, eval b X.env) :: starEach [] X.env := by rfl) (hpl : (backTo pos (starEach [b] X.env)).any (·.1) = false := by rfl) :
    PE X (.Call (.Name x p1) [a, b] [] pos) (TZ E D G (s1 ∧ s2)) :=
  pe_weak (pe_make (E := E) M F hr hg hm hb .nil hx (pa_cons ha (pa_cons hb' pa_nil he2) he) hdb he hpl) fun σ H Q ⟨hg, ⟨h1, h2⟩, z⟩ =>
    ⟨hg, h1, fun H1 S1 => ⟨hG _ _ _ hg S1, h2, fun H2 S2 x dx hx hd hn => ⟨x, i, rfl, fun H3 S3 => z H3 (((S1.trans S2).trans (same_new (same_new (Same.refl _) hd) (by rw [upd_ne (Ne.symm hn)]; exact hx))).trans S3)⟩⟩⟩
/-- return e, x = e -/
theorem qz_ret {σ : L2.St} {H : Hp} {Dn : Ends} (hg : G σ H) (hs : s) (z : ∀ H', Same H H' → E (.ref D) none H') : tRet (TZ E D G s) Dn σ H := ⟨hg, hs, z⟩
end
end SQ
namespace SQ
open PySem PySem.Spec PyProof.Rows L2 SF
/-- the class DividedByZero at D -/
structure DZ (K : PySem.W.Frag) (mg : Str → Option Value) (D : Addr) : Prop where
  g : mg "DividedByZero" = some (.ref D)
  q : PySem.W.excIn K D [.type "ArithmeticError", .type "Exception", .type "BaseException", .type "object"] "ArithmeticError.__new__" = true
  k : PySem.W.keepIn K (.ref D) = true
  b : PySem.W.subIn K (.ref D) (.type "BaseException") = some true
  t : PySem.W.typeIn K (.ref D) = some (.type "type")
theorem ps_dz {X : Cx} {D : Addr} {W : WX} {p pos rpos : Pos} (Z : DZ X.K X.mg D) (hc : X.calm = true) (tk : Takes X W) (hg : Gl X "DividedByZero") : PS X (.Raise (some (.Call (.Name "DividedByZero" p) [] [] pos)) none rpos) (fun _ σ H => W (.ref D) none σ H) :=
  ps_raise hc tk (pmk_own0 PySem.F.excBase_ArithmeticError Z.q Z.g Z.k (raises_own Z.b Z.t) hg)
end SQ
namespace SQ
open PySem PySem.Spec PyProof.Rows L2 SF
def dzB (K : PySem.W.Frag) (D : Addr) : Bool := PySem.W.excIn K D [.type "ArithmeticError", .type "Exception", .type "BaseException", .type "object"] "ArithmeticError.__new__" && (PySem.W.keepIn K (.ref D) && (decide (PySem.W.subIn K (.ref D) (.type "BaseException") = some true) && decide (PySem.W.typeIn K (.ref D) = some (.type "type"))))
theorem dzB_ok {K : PySem.W.Frag} {mg : Str → Option Value} {D : Addr} (h : dzB K D = true) (g : mg "DividedByZero" = some (.ref D)) : DZ K mg D := by
  obtain ⟨h1, h⟩ := Bool.and_eq_true_iff.mp h
  obtain ⟨h2, h⟩ := Bool.and_eq_true_iff.mp h
  obtain ⟨h3, h4⟩ := Bool.and_eq_true_iff.mp h
  exact ⟨g, h1, h2, of_decide_eq_true h3, of_decide_eq_true h4⟩
def ndB (K : PySem.W.Frag) : Bool := PySem.W.nsOkIn K cStatics && decide (PySem.W.nsIn K cStatics "sys.int_max_str_digits" = some none)
end SQ

/-! Texts of ints of up to 4300 digits. -/
namespace SQ
open PySem PySem.Spec PyProof.Rows L2 SF
structure ND (K : PySem.W.Frag) : Prop where
  o : PySem.W.nsOkIn K cStatics = true
  n : PySem.W.nsIn K cStatics "sys.int_max_str_digits" = some none
theorem ND.noDigits {K : PySem.W.Frag} {h : Heap} (N : ND K) (X : K.In h) : h.NoDigits := ⟨_, .of_isNs (PySem.W.isNs_of_in X N.o), PySem.W.nsMap_none_of_in X N.o N.n⟩
theorem p4300 : 2 ^ LIM ≤ 10 ^ 4300 := by decide +kernel
theorem big43 {i : Int} {n : Nat} (h : i.natAbs < 2 ^ n) (hn : n ≤ LIM) : i.natAbs < 10 ^ 4300 := Nat.lt_of_lt_of_le h (Nat.le_trans (two_le hn) p4300)
section
variable {X : Cx}
def tFmtB (te : TE) : TE := fun σ H Q => te σ H fun x H1 => ∃ i : Int, x = .int i ∧ i.natAbs < 10 ^ 4300 ∧ Q (.str (toString i)) H1
/-- {x}: an int of up to 4300 digits -/
theorem pe_fmtB {e : Expr} {te : TE} {pos : Pos} (N : ND X.K) (hc : X.calm = true) (he : PE X e te) : PE X (.FormattedValue e (-1) none pos) (tFmtB te) := by
  refine ⟨fun pins s σ H Q I h => ?_⟩
  refine wpAny_FormattedValue_plain (thn (he.run pins s σ H _ I h) fun v s1 hv => ?_)
  obtain ⟨x, H1, I1, r1, i, rfl, hz, q⟩ := hv
  obtain ⟨t, rfl⟩ := r1
  refine PyProof.Rows.formatField_int (I1.ok.hd hc) (N.noDigits I1.kIn) (fun _ => ⟨.str (toString i), H1, I1.tok _, ⟨_, rfl⟩, q⟩) (fun hge => ?_)
  generalize 10 ^ 4300 = z at hz hge
  omega
/-- str(x) -/
theorem call_strB (N : ND X.K) (hc : X.calm = true) : CallR X (.type "str") (fun xs H Q => ∃ i, xs = [.int i] ∧ i.natAbs < 10 ^ 4300 ∧ Q (.str (toString i)) H) := by
  intro pins s σ H xs us Q I r h
  obtain ⟨i, rfl, hz, q⟩ := h
  obtain ⟨u, rfl, t, rfl⟩ := vals1 r
  refine PyProof.Rows.str_of_int_or (I.ok.hd hc) (N.noDigits I.kIn) (fun _ => ⟨.str (toString i), H, I.tok _, ⟨_, rfl⟩, q⟩) (fun hge => ?_)
  generalize 10 ^ 4300 = z at hz hge
  omega
end
def spStrB (C : Addr) : Sp := fun vs H Q _ => ∃ a n q, vs = [.ref a] ∧ RQ C H a n q ∧ n ≤ LIM ∧ Q (.str (rstr q)) H
def spReprB (C : Addr) : Sp := fun vs H Q _ => ∃ a n q, vs = [.ref a] ∧ RQ C H a n q ∧ n ≤ LIM ∧ Q (.str (rrepr q)) H
theorem tx_lenB {i : Int} {n : Nat} (h : i.natAbs < 2 ^ n) (hn : n ≤ LIM) : (Str.ofString (toString i)).length ≤ LIM + 1 := by
  have e := int_text_length_le (k := LIM) (a := i) (by decide) (PySem.Flt.log2_lt_of (k := LIM) (by decide) (Nat.lt_of_lt_of_le h (two_le hn)))
  rw [PySem.ofString_length]
  omega
section
variable {X : Cx} {C : Addr} {G : L2.St → Hp → Prop} {a b e : Expr} {k k1 k2 : Bool} {l n m : Nat} {q r : Rat} {s s1 s2 : Prop} {pos p1 p2 : Pos} {ps : List Str}
theorem pS_strB {x : Str} (D : Df X.prog X.w X.K X.mg X.base l ps (spStrB C)) (hs : Has X.K C "__str__" D.f) (hr : Room (l + 2) X.A)
    (hg : Gl X x) (hm : X.mg x = none) (hv : bootBuiltins x = some (.type "str")) (ha : PE X a (TQ C G true n q s)) (hn : x ≠ "__name__" := by decide) (hdb : (x == ("__debug__" : Str)) = false := by decide)
    (he : starEach (a :: []) X.env = (false, eval a X.env) :: starEach [] X.env := by rfl) (hpl : (backTo pos (starEach [] X.env)).any (·.1) = false := by rfl) : PE X (.Call (.Name x p1) [a] [] pos) (TS G (rstr q) (s ∧ n ≤ LIM)) :=
  pe_weak (pe_callTy (call_strOwn (E := E0) hs.h hs.i D.G D.b hr pass0) hg hm hv (pa_cons ha pa_nil he) hn hdb he hpl) fun σ H Q ⟨hg, ⟨h1, h2⟩, z⟩ =>
    ⟨hg, h1, fun v H1 S1 nv => by
      obtain ⟨a, rfl, y'⟩ := nv_true nv
      obtain ⟨⟨dx, e⟩, _⟩ := id y'
      exact ⟨a, dx, _, rfl, e, a, n, q, rfl, y', h2, _, rfl, z H1 S1⟩⟩
theorem pS_reprB {x : Str} (D : Df X.prog X.w X.K X.mg X.base l ps (spReprB C)) (hs : Has X.K C "__repr__" D.f) (hr : Room (l + 1) X.A)
    (hg : Gl X x) (hm : X.mg x = none) (hv : bootBuiltins x = some (.builtin "repr")) (ha : PE X a (TQ C G true n q s)) (hn : x ≠ "__name__" := by decide) (hdb : (x == ("__debug__" : Str)) = false := by decide)
    (he : starEach (a :: []) X.env = (false, eval a X.env) :: starEach [] X.env := by rfl) (hpl : (backTo pos (starEach [] X.env)).any (·.1) = false := by rfl) : PE X (.Call (.Name x p1) [a] [] pos) (TS G (rrepr q) (s ∧ n ≤ LIM)) :=
  pe_weak (pe_callB (call_reprOwn (E := E0) hs.h hs.i D.G D.b hr pass0) hg hm hv (pa_cons ha pa_nil he) hn hdb he hpl) fun σ H Q ⟨hg, ⟨h1, h2⟩, z⟩ =>
    ⟨hg, h1, fun v H1 S1 nv => by
      obtain ⟨a, rfl, y'⟩ := nv_true nv
      obtain ⟨⟨dx, e⟩, _⟩ := id y'
      exact ⟨a, dx, _, rfl, e, a, n, q, rfl, y', h2, _, rfl, z H1 S1⟩⟩
theorem pS_strI {x : Str} {i : Int} (N : ND X.K) (hc : X.calm = true) (hg : Gl X x) (hm : X.mg x = none) (hv : bootBuiltins x = some (.type "str")) (ha : PE X a (TI G i s)) (hn : x ≠ "__name__" := by decide) (hdb : (x == ("__debug__" : Str)) = false := by decide)
    (he : starEach (a :: []) X.env = (false, eval a X.env) :: starEach [] X.env := by rfl) (hpl : (backTo pos (starEach [] X.env)).any (·.1) = false := by rfl) : PE X (.Call (.Name x p1) [a] [] pos) (TS G (tx i) (s ∧ i.natAbs < 10 ^ 4300)) :=
  pe_weak (pe_callTy (call_strB N hc) hg hm hv (pa_cons ha pa_nil he) hn hdb he hpl) fun σ H Q ⟨hg, ⟨h1, h2⟩, z⟩ => ⟨hg, h1, fun H1 S1 => ⟨i, rfl, h2, z H1 S1⟩⟩
end
end SQ
namespace SQ
open PySem PySem.Spec PyProof.Rows L2 SF
theorem ndB_ok {K : PySem.W.Frag} (h : ndB K = true) : ND K := ⟨(Bool.and_eq_true_iff.mp h).1, of_decide_eq_true (Bool.and_eq_true_iff.mp h).2⟩
end SQ

/-! What was told, and what was caught, of a fraction. -/
namespace SQ
open PySem PySem.Spec PyProof.Rows L2 SF SFT LamX
/-- kept by all but the tables' growth -/
def GN (G : L2.St → Hp → Prop) : Prop := ∀ σ H H', G σ H → ExtN H H' → G σ H'
theorem RQ.extN {C : Addr} {H H' : Hp} {a : Addr} {n : Nat} {q : Rat} (x : RQ C H a n q) (s : ExtN H H') : RQ C H' a n q := let ⟨⟨dx, e⟩, y⟩ := x; ⟨⟨dx, s _ _ e (fun ps z => by cases z)⟩, y⟩
theorem NV.extN {C : Addr} {H H' : Hp} {k : Bool} {v : V} {n : Nat} {q : Rat} (x : NV C H k v n q) (s : ExtN H H') : NV C H' k v n q := by
  cases k with
  | true => obtain ⟨a, e, y⟩ := x; exact ⟨a, e, y.extN s⟩
  | false => exact x
theorem Sl.extN {C : Addr} {H H' : Hp} {s : Sl} {o : Option V} (h : s.ok C H o) (S : ExtN H H') : s.ok C H' o := by
  cases s with
  | fr n q => obtain ⟨a, e, r⟩ := h; exact ⟨a, e, r.extN S⟩
  | nv k n q => obtain ⟨v, e, r⟩ := h; exact ⟨v, e, r.extN S⟩
  | i z => exact h
  | pr n q => obtain ⟨p, e, r, z⟩ := h; exact ⟨p, e, S _ _ r (fun ps z => by cases z), z⟩
  | ls l => obtain ⟨p, e, r⟩ := h; exact ⟨p, e, S _ _ r (fun ps z => by cases z)⟩
  | any => trivial
theorem Env.gn {C : Addr} : ∀ {L : List Sl}, GN (Env C L)
  | [], _, _, _, _, _ => trivial
  | _ :: L, _ :: σ, H, H', h, S => ⟨Sl.extN h.1 S, Env.gn σ H H' h.2 S⟩
  | _ :: _, [], _, _, h, _ => h
/-- e is the list [w, x] of two texts, made anew; the tables of code objects may have grown -/
def TC (T : List (Addr × Str)) (G : L2.St → Hp → Prop) (w x : Str) (s : Prop) : TE := fun σ H Q => G σ H ∧ Tabs T H ∧ s ∧ ∀ p H', ExtN H H' → Tabs T H' → H' p = some (.lst [.str w, .str x]) → Q (.ref p) H'
section
variable {X : Cx} {C : Addr} {T : List (Addr × Str)} {G : L2.St → Hp → Prop} {cs : Nat → Addr} {e : Expr} {n : Nat} {q : Rat} {s : Prop}
abbrev rOwnR (C : Addr) : List V → Hp → VK → Prop := rOwnStr C (spReprB C) E0
theorem mono_ownR : Mono (rOwnR C) := fun xs H Q Q' h ⟨a, dx, fs, e1, e2, b, n, q, e3, r, hn, y, e4, z⟩ => ⟨a, dx, fs, e1, e2, b, n, q, e3, r, hn, y, e4, h _ _ z⟩
theorem pc_told {RP : List V → Hp → VK → Prop} (h : PE X e (tLam T (TTc cs (rOwnR C) RP) (fun _ => TQ C G true n q s))) (hG : GN G) : PE X e (TC T G "told" (rrepr q) (s ∧ n ≤ LIM)) :=
  pe_weak h fun σ H Q ⟨hg, hT, ⟨h1, h2⟩, z⟩ => ⟨hT, fun H1 S1 T1 Q0 hQ0 => ⟨hG _ _ _ hg S1, h1, fun v H2 S2 nv => hQ0 v H2 (by
    obtain ⟨a, rfl, y⟩ := nv_true nv
    obtain ⟨⟨dx, ea⟩, _⟩ := id y
    exact ⟨a, dx, _, rfl, ea, a, n, q, rfl, y, h2, _, rfl, _, rfl, fun L H3 S3 nL eL => z L H3 (S1.trans (ExtN.of fun b o z => S3 b o (S2 b o z))) (T1.ext fun b o z => S3 b o (S2 b o z)) eL⟩)⟩⟩
theorem pc_fail {RV : List V → Hp → VK → Prop} (h : PE X e (tLam T (TTc cs RV SX.rReprS) (fun E => TZ E (cs 10) G s))) (hG : GN G) : PE X e (TC T G "DividedByZero" "()" s) :=
  pe_weak h fun σ H Q ⟨hg, hT, h1, z⟩ => ⟨hT, fun H1 S1 T1 Q0 hQ0 => ⟨hG _ _ _ hg S1, h1, fun H2 S2 => ⟨10, [], [], by decide, rfl, .inl ⟨rfl, rfl⟩, rfl, fun p H3 S3 ep =>
    ⟨p, .tuple [], rfl, .tup ep .nil, rfl, (by decide), (by decide +kernel), _, rfl, fun L H4 S4 nL eL => z L H4 (S1.trans (ExtN.of fun b o z => S4 b o (S3 b o (S2 b o z)))) (T1.ext fun b o z => S4 b o (S3 b o (S2 b o z))) eL⟩⟩⟩⟩
end
/-! ### a def whose code object is known -/
section
variable {P : Program} {w : World} {K : PySem.W.Frag} {mg : Str → Option Value} {base : Heap}
theorem okGc {x qual : Str} {st : Stmt} {f c : Addr} {fd : FuncData} {N ps : List Str} {k : Nat} {sp : Sp} (F : Fun K x qual st f fd) (hc : fd.code = .ref c) (S : FnScope N ps (defScope st)) (len : ∀ vs H Q E, sp vs H Q E → vs.length = ps.length)
    (hbody : ∀ (A : Around) (outer : List PySem.Env) (s : Shared) (H : Hp) (vs : List V) (Q : VK) (E : XK), A.guards = some [] → Room k (A.deeper (envOfC qual (defScope st) s.heap.objs.size f (.ref c))) → sp vs H Q E →
      ∃ t, PSs (cxOf CX0 P w K mg base N qual (defScope st) f (.ref c) A outer s H E).nox (defBody st) t ∧ t { nx := fun _ H' => Q .non H', rt := Q } (start N vs) H) : FnG P w K mg base CX0 (k + 1) f fd ps sp := by
  obtain ⟨oc, od, kV, doc, pm, an, cdv, ct, osl, rfl, lk, hcd⟩ := F.ex
  cases (show cdv = Value.ref c from hc)
  refine fn_ofG lk hcd S len fun A outer s H vs Q E hgd hr hsp => ?_
  obtain ⟨t, h, q⟩ := hbody A outer s H vs Q E hgd hr hsp
  exact ⟨t, h.nox, q⟩
end
end SQ

/-! Pairs of numerator and denominator, as the laws keep them. -/
namespace SQ
open PySem PySem.Spec PyProof.Rows L2 SF
theorem PQ.same {H H' : Hp} {p : Addr} {n : Nat} {q : Rat} (h : PQ H p n q) (s : Same H H') : PQ H' p n q := ⟨s _ _ h.1, h.2⟩
/-- e is the pair of q, of n binary digits, if s -/
def TP (G : L2.St → Hp → Prop) (n : Nat) (q : Rat) (s : Prop) : TE := fun σ H Q => G σ H ∧ s ∧ ∀ p H', Same H H' → PQ H' p n q → Q (.ref p) H'
def spP2 (side : Rat → Rat → Prop) (f : Rat → Rat → Rat) (g : Nat → Nat → Nat) : Sp := fun vs H Q _ => ∃ a b n m q r, vs = [.ref a, .ref b] ∧ PQ H a n q ∧ PQ H b m r ∧ side q r ∧ g n m ≤ LIM ∧ ∀ p H', Same H H' → PQ H' p (g n m) (f q r) → Q (.ref p) H'
def spP1 (f : Rat → Rat) : Sp := fun vs H Q _ => ∃ a n q, vs = [.ref a] ∧ PQ H a n q ∧ n ≤ LIM ∧ ∀ p H', Same H H' → PQ H' p n (f q) → Q (.ref p) H'
def spPI (side : Rat → Int → Prop) (f : Rat → Int → Rat) (g : Nat → Int → Nat) : Sp := fun vs H Q _ => ∃ a n q i, vs = [.ref a, .int i] ∧ PQ H a n q ∧ side q i ∧ n ≤ LIM ∧ g n i ≤ LIM ∧ ∀ p H', Same H H' → PQ H' p (g n i) (f q i) → Q (.ref p) H'
def spShown : Sp := fun vs H Q _ => ∃ a n q, vs = [.ref a] ∧ PQ H a n q ∧ n ≤ LIM ∧ ∀ H', Same H H' → Q (.str (rrepr q)) H'
section
variable {X : Cx} {C : Addr} {G : L2.St → Hp → Prop} {a b e : Expr} {l n m : Nat} {q r : Rat} {s s1 s2 : Prop} {pos p1 p2 : Pos} {i j : Int} {x : Str} {D : Addr} {fd : FuncData} {ps : List Str}
theorem vP (L : List Sl) (j : Nat) (h : PE X e (tVar j)) (hL : L[j]? = some (.pr n q)) : PE X e (TP (Env C L) n q True) :=
  pe_weak h fun σ H Q ⟨hg, _, z⟩ => by
    obtain ⟨o, e1, p, rfl, r⟩ := hg.at hL
    exact ⟨_, e1, z p H (Same.refl _) r⟩
/-- e[0], e[1] -/
theorem pI_p0 {k : Nat} {pc : Pos} (ha : PE X a (TP G n q s)) : PE X (.Subscript a (.Constant (.int 0) k pc) pos) (TI G q.num s) :=
  pe_weak (pe_ix ix_tup ha pe_int (fun _ _ => rfl)) fun σ H Q ⟨hg, h1, z⟩ => ⟨hg, h1, fun p H1 S1 r => ⟨p, _, 0, _, rfl, rfl, SqT.of r.1, at_of (j := 0) rfl rfl, z H1 S1⟩⟩
theorem pI_p1 {k : Nat} {pc : Pos} (ha : PE X a (TP G n q s)) : PE X (.Subscript a (.Constant (.int 1) k pc) pos) (TI G (q.den : Int) s) :=
  pe_weak (pe_ix ix_tup ha pe_int (fun _ _ => rfl)) fun σ H Q ⟨hg, h1, z⟩ => ⟨hg, h1, fun p H1 S1 r => ⟨p, _, 1, _, rfl, rfl, SqT.of r.1, at_of (j := 1) rfl rfl, z H1 S1⟩⟩
/-- (e, f) -/
theorem pP_tup {k : Nat} (hG : GS G) (ha : PE X a (TI G i s1)) (hb : PE X b (TI G j s2)) (hi : i = q.num) (hj : j = (q.den : Int)) (sz : Sz n q)
    (he : starEach (a :: [b]) X.env = (false, eval a X.env) :: starEach [b] X.env := by rfl) (he2 : starEach (b :: []) X.env = (false, eval b X.env) :: starEach [] X.env := by rfl) : PE X (.Tuple [a, b] k pos) (TP G n q (s1 ∧ s2)) :=
  pe_weak (pe_tup (pa_cons ha (pa_cons hb pa_nil he2) he)) fun σ H Q ⟨hg, ⟨h1, h2⟩, z⟩ => ⟨hg, h1, fun H1 S1 => ⟨hG _ _ _ hg S1, h2, fun H2 S2 => ⟨(by show 2 ≤ sizeLine; decide), fun p np => z p _ (same_new (S1.trans S2) np) ⟨by rw [upd_same, hi, hj], sz⟩⟩⟩⟩
theorem pP_call2 {side : Rat → Rat → Prop} {f : Rat → Rat → Rat} {g : Nat → Nat → Nat} (F : FnOk X.prog X.w X.K X.mg X.base CX0 l D fd ps (spP2 side f g)) (hr : Room l X.A) (hg : Gl X x) (hm : X.mg x = some (.ref D)) (hk : PySem.W.keepIn X.K (.ref D) = true) (hb : Binds X.K fd ps []) (hG : GS G)
    (ha : PE X a (TP G n q s1)) (hb' : PE X b (TP G m r s2)) (hdb : (x == ("__debug__" : Str)) = false := by decide)
    (he : starEach (a :: [b]) X.env = (false, eval a X.env) :: starEach [b] X.env := by rfl) (he2 : starEach (b :: []) X.env = (false, eval b X.env) :: starEach [] X.env := by rfl) (hpl : (backTo pos (starEach [b] X.env)).any (·.1) = false := by rfl) :
    PE X (.Call (.Name x p1) [a, b] [] pos) (TP G (g n m) (f q r) (s1 ∧ s2 ∧ side q r ∧ g n m ≤ LIM)) :=
  pe_weak (pe_call (E := E0) F hr hg hm hk hb .nil pass0 (pa_cons ha (pa_cons hb' pa_nil he2) he) hdb he hpl) fun σ H Q ⟨hg, ⟨h1, h2, h3, h4⟩, z⟩ =>
    ⟨hg, h1, fun v H1 S1 nv => ⟨hG _ _ _ hg S1, h2, fun u H2 S2 nu => ⟨v, u, n, m, q, r, rfl, nv.same S2, nu, h3, h4, fun p H3 S3 rq => z _ H3 ((S1.trans S2).trans S3) rq⟩⟩⟩
theorem pP_call1 {f : Rat → Rat} (F : FnOk X.prog X.w X.K X.mg X.base CX0 l D fd ps (spP1 f)) (hr : Room l X.A) (hg : Gl X x) (hm : X.mg x = some (.ref D)) (hk : PySem.W.keepIn X.K (.ref D) = true) (hb : Binds X.K fd ps [])
    (ha : PE X a (TP G n q s1)) (hdb : (x == ("__debug__" : Str)) = false := by decide)
    (he : starEach (a :: []) X.env = (false, eval a X.env) :: starEach [] X.env := by rfl) (hpl : (backTo pos (starEach [] X.env)).any (·.1) = false := by rfl) : PE X (.Call (.Name x p1) [a] [] pos) (TP G n (f q) (s1 ∧ n ≤ LIM)) :=
  pe_weak (pe_call (E := E0) F hr hg hm hk hb .nil pass0 (pa_cons ha pa_nil he) hdb he hpl) fun σ H Q ⟨hg, ⟨h1, h2⟩, z⟩ => ⟨hg, h1, fun v H1 S1 nv => ⟨v, n, q, rfl, nv, h2, fun p H3 S3 rq => z _ H3 (S1.trans S3) rq⟩⟩
theorem pP_callI {side : Rat → Int → Prop} {f : Rat → Int → Rat} {g : Nat → Int → Nat} (F : FnOk X.prog X.w X.K X.mg X.base CX0 l D fd ps (spPI side f g)) (hr : Room l X.A) (hg : Gl X x) (hm : X.mg x = some (.ref D)) (hk : PySem.W.keepIn X.K (.ref D) = true) (hb : Binds X.K fd ps []) (hG : GS G)
    (ha : PE X a (TP G n q s1)) (hb' : PE X b (TI G i s2)) (hdb : (x == ("__debug__" : Str)) = false := by decide)
    (he : starEach (a :: [b]) X.env = (false, eval a X.env) :: starEach [b] X.env := by rfl) (he2 : starEach (b :: []) X.env = (false, eval b X.env) :: starEach [] X.env := by rfl) (hpl : (backTo pos (starEach [b] X.env)).any (·.1) = false := by rfl) :
    PE X (.Call (.Name x p1) [a, b] [] pos) (TP G (g n i) (f q i) (s1 ∧ s2 ∧ side q i ∧ n ≤ LIM ∧ g n i ≤ LIM)) :=
  pe_weak (pe_call (E := E0) F hr hg hm hk hb .nil pass0 (pa_cons ha (pa_cons hb' pa_nil he2) he) hdb he hpl) fun σ H Q ⟨hg, ⟨h1, h2, h3, h4, h5⟩, z⟩ =>
    ⟨hg, h1, fun v H1 S1 nv => ⟨hG _ _ _ hg S1, h2, fun H2 S2 => ⟨v, n, q, i, rfl, nv.same S2, h3, h4, h5, fun p H3 S3 rq => z _ H3 ((S1.trans S2).trans S3) rq⟩⟩⟩
theorem pS_shown (F : FnOk X.prog X.w X.K X.mg X.base CX0 l D fd ps spShown) (hr : Room l X.A) (hg : Gl X x) (hm : X.mg x = some (.ref D)) (hk : PySem.W.keepIn X.K (.ref D) = true) (hb : Binds X.K fd ps [])
    (ha : PE X a (TP G n q s1)) (hdb : (x == ("__debug__" : Str)) = false := by decide)
    (he : starEach (a :: []) X.env = (false, eval a X.env) :: starEach [] X.env := by rfl) (hpl : (backTo pos (starEach [] X.env)).any (·.1) = false := by rfl) : PE X (.Call (.Name x p1) [a] [] pos) (TS G (rrepr q) (s1 ∧ n ≤ LIM)) :=
  pe_weak (pe_call (E := E0) F hr hg hm hk hb .nil pass0 (pa_cons ha pa_nil he) hdb he hpl) fun σ H Q ⟨hg, ⟨h1, h2⟩, z⟩ => ⟨hg, h1, fun v H1 S1 nv => ⟨v, n, q, rfl, nv, h2, fun H3 S3 => z H3 (S1.trans S3)⟩⟩
/-- _law_lowest(e, f) -/
theorem pP_low (F : FnOk X.prog X.w X.K X.mg X.base CX0 l D fd ps (fun vs H Q _ => ∃ u l : Int, vs = [.int u, .int l] ∧ l ≠ 0 ∧ l.natAbs < 2 ^ LIM ∧ ∀ p, H p = none → Q (.ref p) (upd H p (.tup [.int (nt u l), .int (nb u l)])))) (hr : Room l X.A) (hg : Gl X x) (hm : X.mg x = some (.ref D)) (hk : PySem.W.keepIn X.K (.ref D) = true) (hb : Binds X.K fd ps []) (hG : GS G)
    (ha : PE X a (TI G i s1)) (hb' : PE X b (TI G j s2)) (hi : i.natAbs < 2 ^ n) (hj : j.natAbs < 2 ^ n) (hdb : (x == ("__debug__" : Str)) = false := by decide)
    (he : starEach (a :: [b]) X.env = (false, eval a X.env) :: starEach [b] X.env := by rfl) (he2 : starEach (b :: []) X.env = (false, eval b X.env) :: starEach [] X.env := by rfl) (hpl : (backTo pos (starEach [b] X.env)).any (·.1) = false := by rfl) :
    PE X (.Call (.Name x p1) [a, b] [] pos) (TP G n (Rat.divInt i j) (s1 ∧ s2 ∧ j ≠ 0 ∧ n ≤ LIM)) :=
  pe_weak (pe_call (E := E0) F hr hg hm hk hb .nil pass0 (pa_cons ha (pa_cons hb' pa_nil he2) he) hdb he hpl) fun σ H Q ⟨hg, ⟨h1, h2, h3, h4⟩, z⟩ =>
    ⟨hg, h1, fun H1 S1 => ⟨hG _ _ _ hg S1, h2, fun H2 S2 => ⟨i, j, rfl, h3, Nat.lt_of_lt_of_le hj (two_le h4), fun p np => z p _ (same_new (S1.trans S2) np) ⟨by rw [upd_same, nt_rat h3, nb_rat h3], Sz.of h3 hi hj⟩⟩⟩⟩
/-- int(e) -/
theorem pI_intc (hg : Gl X x) (hm : X.mg x = none) (hv : bootBuiltins x = some (.type "int")) (ha : PE X a (TI G i s)) (hn : x ≠ "__name__" := by decide) (hdb : (x == ("__debug__" : Str)) = false := by decide)
    (he : starEach (a :: []) X.env = (false, eval a X.env) :: starEach [] X.env := by rfl) (hpl : (backTo pos (starEach [] X.env)).any (·.1) = false := by rfl) : PE X (.Call (.Name x p1) [a] [] pos) (TI G i s) :=
  pe_weak (pe_callTy call_int1 hg hm hv (pa_cons ha pa_nil he) hn hdb he hpl) fun σ H Q ⟨hg, h1, z⟩ => ⟨hg, h1, fun H1 S1 => .inl ⟨i, rfl, z H1 S1⟩⟩
/-- texts joined -/
theorem pS_add {y z : Str} (hG : GS G) (ha : PE X a (TS G y s1)) (hb : PE X b (TS G z s2)) : PE X (.BinOp a .Add b pos) (TS G (y ++ z) (s1 ∧ s2 ∧ y.length + z.length ≤ sizeLine)) :=
  pe_weak (pe_op op_add_str ha hb) fun σ H Q ⟨hg, ⟨h1, h2, h3⟩, w⟩ => ⟨hg, h1, fun H1 S1 => ⟨hG _ _ _ hg S1, h2, fun H2 S2 => ⟨_, _, rfl, rfl, h3, w H2 (S1.trans S2)⟩⟩⟩
theorem pS_lit {y : Str} {k : Nat} : PE X (.Constant (.str y) k pos) (TS G y True) := pe_weak pe_str fun σ H Q ⟨hg, _, z⟩ => z H (Same.refl _)
/-- return e -/
theorem qp_ret {σ : L2.St} {H : Hp} {D : Ends} (hg : G σ H) (hs : s) (z : ∀ p H', Same H H' → PQ H' p n q → D.rt (.ref p) H') : tRet (TP G n q s) D σ H := ⟨hg, hs, z⟩
end
/-- a block whose reading has a number that is known only at its start -/
def tEx {α : Type} (t : α → L2.TS) : L2.TS := fun D σ H => ∃ i, t i D σ H
theorem pss_exT {α : Type} {X : Cx} {st : List Stmt} {t : α → L2.TS} (h : ∀ i, PSs X st (t i)) : PSs X st (tEx t) := pss_ex h
end SQ

/-! Lists of texts. -/
namespace SQ
open PySem PySem.Spec PyProof.Rows L2 SF LamX
theorem ok_app {x y : PySem.Str} (h : PyData.strOk x = true) (k : PyData.strOk y = true) : PyData.strOk (x ++ y) = true := by
  show (x.cps ++ y.cps).all (· < 0x110000) = true
  rw [Array.all_append]
  exact Bool.and_eq_true_iff.mpr ⟨h, k⟩
theorem ch_lt (c : Char) : c.toNat < 0x110000 := by
  rcases c.valid with h | ⟨_, h⟩
  · exact Nat.lt_trans h (by decide)
  · exact h
theorem ok_of (s : String) : PyData.strOk (Str.ofString s) = true := by
  unfold PyData.strOk
  rw [Str.ofString_eq_toList]
  refine Array.all_eq_true.mpr fun i hi => decide_eq_true ?_
  simp only [List.getElem_toArray, List.getElem_map]
  exact ch_lt _
theorem ok_rrepr (q : Rat) : PyData.strOk (rrepr q) = true := by
  unfold rrepr
  exact ok_app (ok_app (ok_app (ok_app (ok_app (by decide +kernel) (ok_of _)) (ok_of _)) (ok_of _)) (ok_of _)) (ok_of _)
theorem eqv_strs : ∀ xs ys : List PySem.Str, PyData.eqvAll (xs.map .str) (ys.map .str) = decide (xs = ys)
  | [], [] => rfl
  | [], _ :: _ => rfl
  | _ :: _, [] => rfl
  | x :: xs, y :: ys => by
    show (x == y && PyData.eqvAll (xs.map .str) (ys.map .str)) = _
    rw [eqv_strs xs ys]
    by_cases h : x = y
    · subst h; simp
    · simp [h]
theorem depth_strs : ∀ xs : List PySem.Str, PyData.depthAll (xs.map .str) = 0
  | [] => rfl
  | x :: xs => by
    show max (PyData.depth (.str x)) (PyData.depthAll (xs.map .str)) = 0
    rw [depth_strs xs]
    rfl
theorem shaped_strs {xs : List PySem.Str} (h : xs.all PyData.strOk = true) : SeqAt.shaped (.list (xs.map .str)) = true := by
  unfold SeqAt.shaped
  refine Bool.and_eq_true_iff.mpr ⟨?_, decide_eq_true ?_⟩
  · show PyData.canLayAll0 (xs.map .str) = true
    rw [canLayAll_strs']
    exact h
  · show PyData.depthAll (xs.map .str) + 1 ≤ 64
    rw [depth_strs]
    decide
theorem dp_strs {K : PySem.W.Frag} {H : Hp} : ∀ xs : List PySem.Str, DpAll K H (xs.map V.str) (xs.map .str)
  | [] => .nil
  | x :: xs => .cons (.str x) (dp_strs xs)
/-- e is a new list of these texts, if s -/
def TL (G : L2.St → Hp → Prop) (xs : List PySem.Str) (s : Prop) : TE := fun σ H Q => G σ H ∧ s ∧ ∀ p H', Same H H' → H' p = some (.lst (xs.map V.str)) → Q (.ref p) H'
def TAS (G : L2.St → Hp → Prop) (xs : List PySem.Str) (s : Prop) : TA := fun σ H Q => G σ H ∧ s ∧ ∀ H', Same H H' → Q (xs.map V.str) H'
section
variable {X : Cx} {G : L2.St → Hp → Prop} {a b e : Expr} {es : List Expr} {s s1 s2 : Prop} {pos : Pos} {x : PySem.Str} {xs ys : List PySem.Str}
theorem vL {C : Addr} (L : List Sl) (j : Nat) (h : PE X e (tVar j)) (hL : L[j]? = some (.ls xs)) : PE X e (TL (Env C L) xs True) :=
  pe_weak h fun σ H Q ⟨hg, _, z⟩ => by
    obtain ⟨o, e1, p, rfl, r⟩ := hg.at hL
    exact ⟨_, e1, z p H (Same.refl _) r⟩
theorem pa_weak {t t' : TA} (h : PA X es t) (i : ∀ σ H Q, t' σ H Q → t σ H Q) : PA X es t' := ⟨fun p pins st σ H Q I x => h.run p pins st σ H Q I (i _ _ _ x)⟩
theorem pas_nil : PA X [] (TAS G [] True) := pa_weak pa_nil fun σ H Q ⟨hg, _, z⟩ => z H (Same.refl _)
theorem pas_cons (hG : GS G) (ha : PE X a (TS G x s1)) (hr : PA X es (TAS G xs s2)) (he : starEach (a :: es) X.env = (false, eval a X.env) :: starEach es X.env := by rfl) : PA X (a :: es) (TAS G (x :: xs) (s1 ∧ s2)) :=
  pa_weak (pa_cons ha hr he) fun σ H Q ⟨hg, ⟨h1, h2⟩, z⟩ => ⟨hg, h1, fun H1 S1 => ⟨hG _ _ _ hg S1, h2, fun H2 S2 => z H2 (S1.trans S2)⟩⟩
theorem pL_lst (h : PA X es (TAS G xs s)) : PE X (.List es pos) (TL G xs (s ∧ xs.length ≤ sizeLine)) :=
  pe_weak (pe_lst h) fun σ H Q ⟨hg, ⟨h1, h2⟩, z⟩ => ⟨hg, h1, fun H1 S1 => ⟨by rw [List.length_map]; exact h2, fun p np => z p _ (same_new S1 np) upd_same⟩⟩
theorem pL_cat (hG : GS G) (ha : PE X a (TL G xs s1)) (hb : PE X b (TL G ys s2)) : PE X (.BinOp a .Add b pos) (TL G (xs ++ ys) (s1 ∧ s2 ∧ xs.length + ys.length ≤ sizeLine)) :=
  pe_weak (pe_op op_cat ha hb) fun σ H Q ⟨hg, ⟨h1, h2, h3⟩, z⟩ => ⟨hg, h1, fun p H1 S1 e1 => ⟨hG _ _ _ hg S1, h2, fun u H2 S2 e2 => ⟨p, u, _, _, rfl, rfl, S2 _ _ e1, e2, (by rw [List.length_map, List.length_map]; exact h3), fun w nw => z w _ (same_new (S1.trans S2) nw) (by rw [upd_same, List.map_append])⟩⟩⟩
theorem pb_neL (hu : X.A.units + 64 < cLine) (hG : GS G) (hm : behindInMarks .NotEq b = false) (ha : PE X a (TL G xs s1)) (hb : PE X b (TL G ys s2)) (hx : xs.all PyData.strOk = true) (hy : ys.all PyData.strOk = true) :
    PE X (.Compare a [.NotEq] [b] pos) (TB G (!decide (xs = ys)) (s1 ∧ s2)) :=
  pe_weak (pe_cmpR (op_neD hu) ha hb hm) fun σ H Q ⟨hg, ⟨h1, h2⟩, z⟩ => ⟨hg, h1, fun p H1 S1 e1 => ⟨hG _ _ _ hg S1, h2, fun u H2 S2 e2 =>
    ⟨_, _, .lst (SqL.of (S2 _ _ e1)) (dp_strs xs), .lst (SqL.of e2) (dp_strs ys), shaped_strs hx, shaped_strs hy, by
      show Q (.bl (!PyData.eqvAll (xs.map .str) (ys.map .str))) H2
      rw [eqv_strs]
      exact z H2 (S1.trans S2)⟩⟩⟩
theorem pb_neLT (hu : X.A.units + 64 < cLine) (hG : GS G) (hm : behindInMarks .NotEq b = false) (ha : PE X a (TL G xs s1)) (hb : PE X b (TL G ys s2)) (hx : xs.all PyData.strOk = true) (hy : ys.all PyData.strOk = true) :
    PT X (.Compare a [.NotEq] [b] pos) (TBt G (!decide (xs = ys)) (s1 ∧ s2)) :=
  pt_weak (pt_cmpR (op_neD hu) ha hb hm) fun σ H Q ⟨hg, ⟨h1, h2⟩, z⟩ => ⟨hg, h1, fun p H1 S1 e1 => ⟨hG _ _ _ hg S1, h2, fun u H2 S2 e2 =>
    ⟨_, _, .lst (SqL.of (S2 _ _ e1)) (dp_strs xs), .lst (SqL.of e2) (dp_strs ys), shaped_strs hx, shaped_strs hy, _, rfl, by
      show Q (!PyData.eqvAll (xs.map .str) (ys.map .str)) H2
      rw [eqv_strs]
      exact z H2 (S1.trans S2)⟩⟩⟩
end
end SQ

/-! Calls by keyword alone: own defs, methods of own instances. -/
namespace SF
open PySem PySem.Spec PyProof.Rows L2
def tCallK (n : Nat) (sp : Sp) (gV : List V → List V → List V) (E : XK) (tk : TA) : TE := fun σ H Q => tk σ H fun zs H1 => zs.length = n ∧ sp (gV [] zs) H1 Q E
def tMethK (C : Addr) (m : Str) (n : Nat) (sp : Sp) (gV : List V → List V → List V) (E : XK) (ta : TE) (tk : TA) : TE := fun σ H Q => ta σ H fun x H1 => ∃ a dx fs, x = .ref a ∧ H1 a = some (.ins C dx fs) ∧ fs.lookup m = none ∧ tk σ H1 fun zs H2 => zs.length = n ∧ sp (gV [x] zs) H2 Q E
section
variable {X : Cx} {CX : CXT} {k n : Nat} {f C : Addr} {fd : FuncData} {ps ks : List Str} {sp : Sp} {E : XK} {x m : Str} {p pos apos : Pos} {o : Expr} {kws : List Keyword} {ta : TE} {tk : TA} {g : List Value → List Value → List Value} {gV : List V → List V → List V}
theorem run_kw {pins : List (Addr × Obj)} {σ : L2.St} {H : Hp} {s : Shared} {Q : VK} {us ws : List Value} {vs zs : List V} (F : FnOk X.prog X.w X.K X.mg X.base CX k f fd ps sp) (hr : Room k X.A) (hb : KBn X.K fd ps n ks g gV) (hx : Passes CX X E)
    (I : Inv X pins σ H s) (r : Vals vs us) (rz : Vals zs ws) (l1 : us.length = n) (l2 : zs.length = ks.length) (h : sp (gV vs zs) H Q E) : wpAny (model X.prog X.w) X.A (call (.ref f) us (ks.zip ws)) (EP X pins σ Q) X.xe s := by
  refine wpAny_call (codeAny_mono (F.run X.A X.stack s H ⟨us, ks.zip ws⟩ (g us ws) (gV vs zs) Q E hr I.env0 (hb.to s us ws I.kIn l1 (rz.length.symm.trans l2)) (hb.rel r rz) h) fun r s' hq => ?_)
  cases r with
  | error e => exact hx pins σ H s e s' I hq
  | ok fl =>
    cases fl with
    | ret u => exact I.after hq
    | next => exact False.elim hq
    | brk => exact False.elim hq
    | cont => exact False.elim hq
/-- x(f = e, ..) -/
theorem pe_callKW (F : FnOk X.prog X.w X.K X.mg X.base CX k f fd ps sp) (hr : Room k X.A) (hg : Gl X x) (hm : X.mg x = some (.ref f)) (hk : PySem.W.keepIn X.K (.ref f) = true) (hb : KBn X.K fd ps 0 ks g gV) (hx : Passes CX X E) (hkw : PK X kws tk)
    (hall : (backToKw pos (keywordEach kws X.env)).all (·.1.isSome) = true := by rfl) (hks : (backToKw pos (keywordEach kws X.env)).filterMap (·.1) = ks := by rfl) (hdb : (x == ("__debug__" : Str)) = false := by decide)
    (hpl : ((backTo pos (starEach [] X.env)).any (·.1) || (backToKw pos (keywordEach kws X.env)).any (·.1.isNone)) = false := by rfl) :
    PE X (.Call (.Name x p) [] kws pos) (tCallK ks.length sp gV E tk) := by
  refine ⟨fun pins s σ H Q I h => ?_⟩
  refine wpAny_Call_Name_kw (ld_glob I hg hm ?_ hdb)
  refine PySem.W.callWith_KW0 (h₀ := X.base) I.ok.mod.kin hk hall ?_ hpl
  refine thn (hkw.run pos pins s σ H _ I h) fun ws s2 ⟨zs, H2, I2, rz, l2, q2⟩ => ⟨I2.kIn, ?_⟩
  rw [hks]
  exact run_kw (us := []) (vs := []) F hr hb hx I2 .nil rz rfl l2 q2
/-- o.m(f = e, ..) -/
theorem pe_methKW {pl : Sem Bool} (he : PE X o ta) (c : Cls X.K C) (hm : Meth X.K C m f) (F : FnOk X.prog X.w X.K X.mg X.base CX k f fd ps sp) (hr : Room k X.A) (hb : KBn X.K fd ps 1 ks g gV) (hx : Passes CX X E) (hkw : PK X kws tk)
    (hall : (backToKw pos (keywordEach kws X.env)).all (·.1.isSome) = true := by rfl) (hks : (backToKw pos (keywordEach kws X.env)).filterMap (·.1) = ks := by rfl)
    (hpl : ((backTo pos (starEach [] X.env)).any (·.1) || (backToKw pos (keywordEach kws X.env)).any (·.1.isNone)) = false := by rfl)
    (ht : eval (.Call (.Attribute o m apos) [] kws pos) X.env = (do
      let ov ← eval o X.env
      standAt apos.atName
      let (f, first) ← holding [ov] (getMethod ov m pl)
      callWith pos f first (backTo pos (starEach [] X.env)) (backToKw pos (keywordEach kws X.env))) := by rfl) :
    PE X (.Call (.Attribute o m apos) [] kws pos) (tMethK C m ks.length sp gV E ta tk) := by
  refine ⟨fun pins s σ H Q I h => ?_⟩
  refine PySem.W.methodCall_KW (pl := pl) (thn (he.run pins s σ H _ I h) fun u s1 ⟨x, H1, I1, rx, a, dx, fs, ex, ea, l, q⟩ => ?_) ht
  subst ex
  obtain rfl : u = Value.ref a := rx
  refine getmeth_ok I1 ea c hm l ?_
  refine PySem.W.callWith_KW0 (first := [.ref a]) (h₀ := X.base) I.ok.mod.kin hm.kp hall ?_ hpl
  refine thn (hkw.run pos pins s1 σ H1 _ I1 q) fun ws s2 ⟨zs, H2, I2, rz, l2, q2⟩ => ⟨I2.kIn, ?_⟩
  rw [hks]
  exact run_kw (us := [.ref a]) (vs := [.ref a]) F hr hb hx I2 (.cons rfl .nil) rz rfl l2 q2
end
end SF

/-! Tests of what was told or caught. -/
namespace SQ
open PySem PySem.Spec PyProof.Rows L2 SF LamX
/-- a test whose answer is known, behind which tables of code objects may have grown -/
def TCt (T : List (Addr × PySem.Str)) (G : L2.St → Hp → Prop) (b : Bool) (s : Prop) : TT := fun σ H Q => G σ H ∧ Tabs T H ∧ s ∧ ∀ H', ExtN H H' → Tabs T H' → Q b H'
section
variable {X : Cx} {T : List (Addr × PySem.Str)} {G : L2.St → Hp → Prop} {a b : Expr} {s1 s2 : Prop} {pos : Pos} {w x : PySem.Str} {ys : List PySem.Str} {b1 b2 : Bool} {rest : List Expr}
theorem ext_tabs {H H' : Hp} (t : Tabs T H) (s : Same H H') : Tabs T H' := t.ext s
/-- _law_caught(..) != e -/
theorem pc_neT (hu : X.A.units + 64 < cLine) (hG : GN G) (hm : behindInMarks .NotEq b = false) (ha : PE X a (TC T G w x s1)) (hb : PE X b (TL G ys s2)) (hx : [w, x].all PyData.strOk = true) (hy : ys.all PyData.strOk = true) :
    PT X (.Compare a [.NotEq] [b] pos) (TCt T G (!decide ([w, x] = ys)) (s1 ∧ s2)) :=
  pt_weak (pt_cmpR (op_neD hu) ha hb hm) fun σ H Q ⟨hg, hT, ⟨h1, h2⟩, z⟩ => ⟨hg, hT, h1, fun p H1 S1 T1 e1 => ⟨hG _ _ _ hg S1, h2, fun u H2 S2 e2 =>
    ⟨_, _, .lst (SqL.of (S2 _ _ e1)) (dp_strs [w, x]), .lst (SqL.of e2) (dp_strs ys), shaped_strs hx, shaped_strs hy, _, rfl, by
      show Q (!PyData.eqvAll ([w, x].map .str) (ys.map .str)) H2
      rw [eqv_strs]
      exact z H2 (S1.trans (ExtN.of S2)) (T1.ext S2)⟩⟩⟩
theorem pc_or1 (ha : PT X a (TCt T G b1 s1)) : PW X (.BoolOp .Or [a] pos) (TCt T G b1 s1) := pw_or1 ha
theorem pc_and1 (ha : PT X a (TCt T G b1 s1)) : PW X (.BoolOp .And [a] pos) (TCt T G b1 s1) := pw_and1 ha
theorem pc_or (hG : GN G) (ha : PT X a (TCt T G b1 s1)) (hb : PW X (.BoolOp .Or (b :: rest) pos) (TBt G b2 s2)) : PW X (.BoolOp .Or (a :: b :: rest) pos) (TCt T G (b1 || b2) (s1 ∧ (b1 = false → s2))) :=
  pw_weak (pw_or ha hb) fun σ H Q ⟨hg, hT, ⟨h1, h2⟩, z⟩ => ⟨hg, hT, h1, fun H1 S1 T1 => by
    cases b1 with
    | true => exact iteT (by simpa using z H1 S1 T1)
    | false => exact iteF ⟨hG _ _ _ hg S1, h2 rfl, fun H2 S2 => by simpa using z H2 (S1.trans (ExtN.of S2)) (T1.ext S2)⟩⟩
theorem pc_and (hG : GS G) (ha : PT X a (TBt G b1 s1)) (hb : PW X (.BoolOp .And (b :: rest) pos) (TCt T G b2 s2)) : PW X (.BoolOp .And (a :: b :: rest) pos) (TCt T G (b1 && b2) (s1 ∧ (b1 = true → s2))) :=
  pw_weak (pw_and ha hb) fun σ H Q ⟨hg, hT, ⟨h1, h2⟩, z⟩ => by
    refine ⟨hg, h1, fun H1 S1 => ?_⟩
    cases b1 with
    | false => exact iteF (by simpa using z H1 (ExtN.of S1) (hT.ext S1))
    | true => exact iteT ⟨hG _ _ _ hg S1, hT.ext S1, h2 rfl, fun H2 S2 T2 => by simpa using z H2 ((ExtN.of S1).trans S2) T2⟩
end
end SQ

/-! Comprehensions of texts over lists whose items are known by slots. -/
namespace SQ
open PySem PySem.Spec PyProof.Rows L2 SF LamX
def tExE {α : Type} (t : α → TE) : TE := fun σ H Q => ∃ i, t i σ H Q
theorem pe_exT {α : Type} {X : Cx} {e : Expr} {t : α → TE} (h : ∀ i, PE X e (t i)) : PE X e (tExE t) := ⟨fun pins s σ H Q I ⟨i, z⟩ => (h i).run pins s σ H Q I z⟩
theorem Env.set {C : Addr} {z : Sl} {w : V} {H : Hp} : ∀ {L : List Sl} {σ : L2.St} {j : Nat}, Env C L σ H → z.ok C H (some w) → Env C (L.set j z) (σ.set j (some w)) H
  | [], σ, j, h, k => trivial
  | _ :: L, [], j, h, k => h.elim
  | _ :: L, _ :: σ, 0, h, k => ⟨k, h.2⟩
  | _ :: L, _ :: σ, j + 1, h, k => ⟨h.1, Env.set h.2 k⟩
theorem Env.setAny {C : Addr} {o : Option V} {H : Hp} : ∀ {L : List Sl} {σ : L2.St} {j : Nat}, Env C L σ H → L[j]? = some .any → Env C L (σ.set j o) H
  | [], σ, j, h, k => trivial
  | _ :: L, [], j, h, k => h.elim
  | _ :: L, _ :: σ, 0, h, k => by cases k; exact ⟨trivial, h.2⟩
  | _ :: L, _ :: σ, j + 1, h, k => ⟨h.1, Env.setAny h.2 k⟩
/-- e is a thing of this slot -/
def TSl (C : Addr) (G : L2.St → Hp → Prop) (z : Sl) (s : Prop) : TE := fun σ H Q => G σ H ∧ s ∧ ∀ w H', Same H H' → z.ok C H' (some w) → Q w H'
def Oks (C : Addr) (H : Hp) (sl : List Sl) (ws : List V) : Prop := ws.length = sl.length ∧ ∀ (t : Nat) (z : Sl) (w : V), sl[t]? = some z → ws[t]? = some w → z.ok C H (some w)
def TAsl (C : Addr) (G : L2.St → Hp → Prop) (sl : List Sl) (s : Prop) : TA := fun σ H Q => G σ H ∧ s ∧ ∀ ws H', Same H H' → Oks C H' sl ws → Q ws H'
def TLs (C : Addr) (G : L2.St → Hp → Prop) (sl : List Sl) (s : Prop) : TE := fun σ H Q => G σ H ∧ s ∧ ∀ p ws H', Same H H' → H' p = some (.lst ws) → Oks C H' sl ws → Q (.ref p) H'
theorem Oks.same {C : Addr} {H H' : Hp} {sl : List Sl} {ws : List V} (h : Oks C H sl ws) (S : Same H H') : Oks C H' sl ws := ⟨h.1, fun t z w a b => Sl.same (h.2 t z w a b) S⟩
theorem Oks.cons {C : Addr} {H : Hp} {z : Sl} {w : V} {sl : List Sl} {ws : List V} (h : z.ok C H (some w)) (r : Oks C H sl ws) : Oks C H (z :: sl) (w :: ws) :=
  ⟨by rw [List.length_cons, List.length_cons, r.1], fun t => match t with
    | 0 => fun z w a b => by cases a; cases b; exact h
    | t + 1 => fun z w a b => r.2 t z w a b⟩
section
variable {X : Cx} {C : Addr} {G : L2.St → Hp → Prop} {a e : Expr} {es : List Expr} {s s1 s2 : Prop} {pos : Pos} {z : Sl} {sl : List Sl} {n : Nat} {q : Rat} {i : Int} {L : List Sl}
theorem sl_i (h : PE X e (TI G i s)) : PE X e (TSl C G (.i i) s) := pe_weak h fun σ H Q ⟨hg, h1, w⟩ => ⟨hg, h1, fun H' S => w _ H' S rfl⟩
theorem sl_p (h : PE X e (TP G n q s)) : PE X e (TSl C G (.pr n q) s) := pe_weak h fun σ H Q ⟨hg, h1, w⟩ => ⟨hg, h1, fun p H' S r => w _ H' S ⟨p, rfl, r⟩⟩
theorem psl_nil : PA X [] (TAsl C G [] True) := pa_weak pa_nil fun σ H Q ⟨hg, _, z⟩ => z [] H (Same.refl _) ⟨rfl, fun t z w a => by cases a⟩
theorem psl_cons (hG : GS G) (ha : PE X a (TSl C G z s1)) (hr : PA X es (TAsl C G sl s2)) (he : starEach (a :: es) X.env = (false, eval a X.env) :: starEach es X.env := by rfl) : PA X (a :: es) (TAsl C G (z :: sl) (s1 ∧ s2)) :=
  pa_weak (pa_cons ha hr he) fun σ H Q ⟨hg, ⟨h1, h2⟩, k⟩ => ⟨hg, h1, fun w H1 S1 kw => ⟨hG _ _ _ hg S1, h2, fun ws H2 S2 kws => k _ H2 (S1.trans S2) (.cons (Sl.same kw S2) kws)⟩⟩
theorem pls_lst (h : PA X es (TAsl C G sl s)) : PE X (.List es pos) (TLs C G sl (s ∧ sl.length ≤ sizeLine)) :=
  pe_weak (pe_lst h) fun σ H Q ⟨hg, ⟨h1, h2⟩, z⟩ => ⟨hg, h1, fun ws H1 S1 k => ⟨by have e := k.1; omega, fun p np => z p ws _ (same_new S1 np) upd_same (k.same (same_new (Same.refl _) np))⟩⟩
/-- [elt for y in iter]: a list of texts -/
theorem pL_comp {elt tg iter : Expr} {scope : Scope} {y : Str} {j : Nat} {xs : List Str} {se : Nat → Prop} (hc : X.calm = true) (hN : X.N.Nodup) (hi : PE X iter (TLs C G sl s)) (ok : BlkOk X.N X.env.scope scope [(y, j)]) (hGL : ∀ σ H, G σ H → Env C L σ H) (hG : GS G) (hL : L[j]? = some .any) (hlen : xs.length = sl.length)
    (hg : ∀ (s : Shared) (H : Hp) (C : Addr) (cl : List (Str × Addr)) (fp : List Addr), PG (X.blk s H scope (compEnvC scope cl C X.env) fp) tg (gName j))
    (he : ∀ (t : Fin sl.length) (s : Shared) (H : Hp) (D : Addr) (cl : List (Str × Addr)) (fp : List Addr), PE (X.blk s H scope (compEnvC scope cl D X.env) fp) elt (TS (Env C (L.set j sl[t.1])) (xs[t.1]'(by rw [hlen]; exact t.2)) (se t.1)))
    (hs : ∀ x, foldedSetIterable iter X.env x = pure x := by intro _; rfl) :
    PE X (.ListComp elt [⟨tg, iter, [], 0⟩] scope pos) (TL (fun _ _ => True) xs True |> fun _ => fun σ H Q => G σ H ∧ (s ∧ (∀ t, t < sl.length → se t) ∧ sl.length ≤ sizeLine) ∧ ∀ p H', Same H H' → H' p = some (.lst (xs.map V.str)) → Q (.ref p) H') := by
  refine pe_weak (pe_lc hc hN (pi_list hi) ok hg (fun _ _ _ _ _ => pts_nil) (fun s H D cl fp => pe_exT fun t => he t s H D cl fp) hs) ?_
  rintro σ H Q ⟨hg', ⟨h1, h2, h3⟩, z⟩
  refine ⟨hg', h1, fun p ws H1 S1 e1 kw => ⟨p, rfl, ⟨_, SqL.of e1⟩, fun D hD => lc_list (a := p) (xs := ws) (fun k H2 => Same H1 H2 ∧ H2 D = some (.lst ((xs.take k).map V.str))) ⟨same_new (Same.refl _) hD, upd_same⟩ (fun k H2 _ ⟨S, _⟩ => SqL.of (S _ _ e1)) (fun k w H2 hk ⟨S2, g2⟩ => ?_) (fun H2 ⟨S2, g2⟩ => ?_)⟩⟩
  · have hkl : k < sl.length := by rw [← kw.1]; exact (List.getElem?_eq_some_iff.mp hk).1
    refine ⟨by simp [wipe, List.set_set], ⟨k, hkl⟩, ?_, h2 k hkl, fun H4 S4 => ⟨_, S4 _ _ g2, ?_, ?_, ?_⟩⟩
    · have ev := hGL _ _ (hG _ _ _ hg' (S1.trans S2))
      have kz : (sl[k]).ok C H2 (some w) := Sl.same (kw.2 k _ w (List.getElem?_eq_getElem hkl) hk) S2
      exact Env.set (Env.setAny ev hL) kz
    · rw [List.length_map, List.length_take]
      exact Nat.lt_of_lt_of_le (by omega) h3
    · intro b o e
      have nb : b ≠ D := ne_of_none e hD
      rw [upd_ne nb]
      exact S4 _ _ (S2 _ _ e)
    · rw [upd_same, List.take_add_one, List.getElem?_eq_getElem (by rw [hlen]; exact hkl), List.map_append]
      rfl
  · have hz : H2 D = some (.lst (xs.map V.str)) := by
      rw [kw.1, ← hlen, List.take_length] at g2
      exact g2
    exact z D H2 (S1.trans S2) hz
end
end SQ

/-! for place, x in enumerate(t); comprehensions that only make objects; != with an own instance on the right; entries (gaps and fractions) compared. -/
namespace SK
open PySem PySem.Spec PyProof.Rows L2 SF SQ
def iEnumT (K : PySem.W.Frag) (ta : TA) : TI := fun σ H R => ta σ H fun vs H1 => ∃ a xs, vs = [.ref a] ∧ SqT K H1 a xs ∧ R (ItEt K a) H1
theorem pi_enumT {X : Cx} {e : Expr} {ta : TA} {p pos tpos : Pos} {elts : List Expr} {kk : Nat} (hg : Gl X "enumerate") (hm : X.mg "enumerate" = none) (ha : PA X [e] ta) (hs : starEach [e] X.env = [(false, eval e X.env)] := by rfl) :
    PI X (.Tuple elts kk tpos) (.Call (.Name "enumerate" p) [e] [] pos) (iEnumT X.K ta) := by
  refine ⟨fun pins s σ H R I h => ?_⟩
  refine Call_ (ld_blt I hg hm boot_enumerate (PyProof.Rows.callWith_type1 (thn (ha.run pos pins s σ H _ I h) fun us s1 ⟨vs, H1, I1, r1, q1⟩ => ?_) hs rfl))
  obtain ⟨a, xs, ex, hq, q⟩ := q1
  subst ex
  cases r1 with
  | cons r rr =>
    cases rr
    cases r
    obtain ⟨its, rv, p', hz⟩ := I1.tuple hq
    have p' : s1.heap.IsTuple a its.toArray := p'
    have hal : a < s1.heap.objs.size := by obtain ⟨_, g, _⟩ := p'; exact Heap.lt_size g
    refine SKx.call_enumT p' fun h' he hit hk => wpAny_pyIter_enum he ?_
    have I2 : Inv X pins σ H1 { s1 with heap := h' } := I1.kept (t' := s1.toks) hk
    refine ⟨s1.heap.objs.size + 1, [s1.heap.objs.size + 1, s1.heap.objs.size], _, _, H1, rfl, I2, turn_enumT a (s1.heap.objs.size + 1) s1.heap.objs.size (Nat.ne_of_lt hal) (Nat.ne_of_lt (Nat.lt_succ_of_lt hal)), ⟨⟨.none, he⟩, hit, Nat.succ_ne_self _⟩, fun b hb => ?_, q⟩
    have e' : b = s1.heap.objs.size + 1 ∨ b = s1.heap.objs.size := by simpa using hb
    have hle : s1.heap.objs.size ≤ b := by
      rcases e' with z | z
      · rw [z]; exact Nat.le_add_right _ _
      · rw [z]; exact Nat.le_refl _
    exact I1.fpOk hle (I1.hok.fresh hle)
/-- a comprehension over enumerate(a tuple) -/
theorem lc_enumT {K : PySem.W.Frag} {a : Addr} {xs : List V} {g : TG} {tt : TT} {te : TE} {vs : List Nat} {σ : L2.St} {H1 : Hp} {D : Addr} {Qd : Hp → Prop} (Pv : Nat → Hp → Prop) (h0 : Pv 0 (upd H1 D (.lst []))) (hl : ∀ i H, Pv i H → SqT K H a xs)
    (hs : ∀ (i : Nat) x T H, xs[i]? = some x → Pv i H → H T = none → g (.ref T) (wipe σ vs) (upd H T (.tup [.int (i : Nat), x])) fun σ2 H2 => wipe σ2 vs = wipe σ vs ∧ tt σ2 H2 fun b H3 =>
      if b = true then te σ2 H3 fun y H4 => ∃ acc, H4 D = some (.lst acc) ∧ acc.length < sizeLine ∧ Pv (i + 1) (upd H4 D (.lst (acc ++ [y]))) else Pv (i + 1) H3) (hd : ∀ H, Pv xs.length H → Qd H) :
    ∃ W : Nat → Nat → Hp → Prop, (∃ m, W 0 m (upd H1 D (.lst []))) ∧ ∀ i m H, W i m H →
      ((ItEt K a).stop i H ∧ Qd H) ∨ ((ItEt K a).go i H ∧ ∃ Nx : Hp → Prop, (∀ H', Nx H' → ∃ m', m' < m ∧ W (i + 1) m' H') ∧ ∀ x H', (ItEt K a).yld i H x H' → g x (wipe σ vs) H' fun σ2 H2 => wipe σ2 vs = wipe σ vs ∧ tt σ2 H2 fun b H3 =>
        if b = true then te σ2 H3 fun y H4 => ∃ acc, H4 D = some (.lst acc) ∧ acc.length < sizeLine ∧ Nx (upd H4 D (.lst (acc ++ [y]))) else Nx H3) := by
  refine ⟨fun i m H => m = xs.length - i ∧ i ≤ xs.length ∧ Pv i H, ⟨xs.length, rfl, Nat.zero_le _, h0⟩, ?_⟩
  rintro i m H ⟨rfl, hi, p⟩
  have q := hl i H p
  by_cases hlt : i < xs.length
  · have hx : xs[i]? = some xs[i] := List.getElem?_eq_getElem hlt
    refine .inr ⟨⟨xs, xs[i], q, hx⟩, Pv (i + 1), fun H' p' => ⟨xs.length - (i + 1), by omega, rfl, hlt, p'⟩, fun v H' y => ?_⟩
    obtain ⟨T, x', rfl, hT, rfl, f1⟩ := y
    exact hs i x' T H (f1 xs q) p hT
  · have e : i = xs.length := by omega
    subst e
    exact .inl ⟨⟨xs, q, Nat.le_refl _⟩, hd H p⟩
theorem wipe1 (σ : L2.St) (j : Nat) (o : Option V) : wipe ((wipe σ [j]).set j o) [j] = wipe σ [j] := by simp [wipe, List.set_set]
/-- what a comprehension that only makes objects has made so far -/
def Made (P : Nat → V → Hp → Prop) (H0 : Hp) (D : Addr) (i : Nat) (H : Hp) : Prop := Same H0 H ∧ ∃ ys, H D = some (.lst ys) ∧ ys.length = i ∧ ∀ k y, ys[k]? = some y → P k y H
theorem Made.start {P : Nat → V → Hp → Prop} {H0 : Hp} {D : Addr} (hD : H0 D = none) : Made P H0 D 0 (upd H0 D (.lst [])) := ⟨same_new (Same.refl _) hD, [], upd_same, rfl, fun k y h => by simp at h⟩
theorem Made.step {P : Nat → V → Hp → Prop} (mono : ∀ k y H H', Same H H' → P k y H → P k y H') (off : ∀ k y H D xs zs, H D = some (.lst xs) → P k y H → P k y (upd H D (.lst zs))) {H0 H H4 : Hp} {D : Addr} {i : Nat} {y : V} (hD : H0 D = none) (m : Made P H0 D i H) (S : Same H H4) (p : P i y H4) (hi : i < sizeLine) :
    ∃ acc, H4 D = some (.lst acc) ∧ acc.length < sizeLine ∧ Made P H0 D (i + 1) (upd H4 D (.lst (acc ++ [y]))) := by
  obtain ⟨S0, ys, hy, hl, hp⟩ := m
  have hy4 := S _ _ hy
  refine ⟨ys, hy4, by rw [hl]; exact hi, fun b o e => ?_, ys ++ [y], upd_same, by rw [List.length_append, hl]; rfl, fun k z hk => ?_⟩
  · rw [upd_ne (ne_of_none e hD)]
    exact S _ _ (S0 _ _ e)
  · refine off _ _ _ _ _ _ hy4 ?_
    by_cases hlt : k < ys.length
    · rw [List.getElem?_append_left hlt] at hk
      exact mono _ _ _ _ S (hp k z hk)
    · have e : k = ys.length := by
        have h2 := (List.getElem?_eq_some_iff.mp hk).1
        rw [List.length_append] at h2
        simp at h2
        omega
      subst e
      rw [List.getElem?_append_right (Nat.le_refl _)] at hk
      simp at hk
      subst hk
      rw [hl]
      exact p
section
variable {K : PySem.W.Frag} {a D : Addr} {xs : List V} {te : TE} {j : Nat} {σ : L2.St} {H1 : Hp} {Qd : Hp → Prop} {P : Nat → V → Hp → Prop}
theorem lcS_list (mono : ∀ k y H H', Same H H' → P k y H → P k y H') (off : ∀ k y H D xs zs, H D = some (.lst xs) → P k y H → P k y (upd H D (.lst zs))) (hl : SqL K H1 a xs) (hz : xs.length ≤ sizeLine) (hD : H1 D = none)
    (step : ∀ i x H Q, xs[i]? = some x → Same H1 H → (∀ y H', Same H H' → P i y H' → Q y H') → te ((wipe σ [j]).set j (some x)) H Q) (fin : ∀ H ys, Same H1 H → H D = some (.lst ys) → ys.length = xs.length → (∀ k y, ys[k]? = some y → P k y H) → Qd H) :
    ∃ W : Nat → Nat → Hp → Prop, (∃ m, W 0 m (upd H1 D (.lst []))) ∧ ∀ i m H, W i m H →
      ((Itl K a).stop i H ∧ Qd H) ∨ ((Itl K a).go i H ∧ ∃ Nx : Hp → Prop, (∀ H', Nx H' → ∃ m', m' < m ∧ W (i + 1) m' H') ∧ ∀ x H', (Itl K a).yld i H x H' → gName j x (wipe σ [j]) H' fun σ2 H2 => wipe σ2 [j] = wipe σ [j] ∧ tYes σ2 H2 fun b H3 =>
        if b = true then te σ2 H3 fun y H4 => ∃ acc, H4 D = some (.lst acc) ∧ acc.length < sizeLine ∧ Nx (upd H4 D (.lst (acc ++ [y]))) else Nx H3) :=
  lc_list (fun i H => Made P H1 D i H) (Made.start hD) (fun i H _ m => hl.ext m.1) (fun i x H hx m => ⟨wipe1 _ _ _, iteT (B := Made P H1 D (i + 1) H) (step i x H _ hx m.1 fun y H' S p =>
    Made.step mono off hD m S p (Nat.lt_of_lt_of_le (List.getElem?_eq_some_iff.mp hx).1 hz))⟩) (fun H m => let ⟨S, ys, h1, h2, h3⟩ := m; fin H ys S h1 h2 h3)
theorem lcS_tup (mono : ∀ k y H H', Same H H' → P k y H → P k y H') (off : ∀ k y H D xs zs, H D = some (.lst xs) → P k y H → P k y (upd H D (.lst zs))) (hl : SqT K H1 a xs) (hz : xs.length ≤ sizeLine) (hD : H1 D = none)
    (step : ∀ i x H Q, xs[i]? = some x → Same H1 H → (∀ y H', Same H H' → P i y H' → Q y H') → te ((wipe σ [j]).set j (some x)) H Q) (fin : ∀ H ys, Same H1 H → H D = some (.lst ys) → ys.length = xs.length → (∀ k y, ys[k]? = some y → P k y H) → Qd H) :
    ∃ W : Nat → Nat → Hp → Prop, (∃ m, W 0 m (upd H1 D (.lst []))) ∧ ∀ i m H, W i m H →
      ((Itt K a).stop i H ∧ Qd H) ∨ ((Itt K a).go i H ∧ ∃ Nx : Hp → Prop, (∀ H', Nx H' → ∃ m', m' < m ∧ W (i + 1) m' H') ∧ ∀ x H', (Itt K a).yld i H x H' → gName j x (wipe σ [j]) H' fun σ2 H2 => wipe σ2 [j] = wipe σ [j] ∧ tYes σ2 H2 fun b H3 =>
        if b = true then te σ2 H3 fun y H4 => ∃ acc, H4 D = some (.lst acc) ∧ acc.length < sizeLine ∧ Nx (upd H4 D (.lst (acc ++ [y]))) else Nx H3) :=
  lc_tup (fun i H => Made P H1 D i H) (Made.start hD) (fun i H _ m => hl.ext m.1) (fun i x H hx m => ⟨wipe1 _ _ _, iteT (B := Made P H1 D (i + 1) H) (step i x H _ hx m.1 fun y H' S p =>
    Made.step mono off hD m S p (Nat.lt_of_lt_of_le (List.getElem?_eq_some_iff.mp hx).1 hz))⟩) (fun H m => let ⟨S, ys, h1, h2, h3⟩ := m; fin H ys S h1 h2 h3)
end
/-! ### != with an own instance on the right -/
section
variable {prog : Program} {w : World} {A : Around} {R : Result → Shared → Prop} {s : Shared} {K : PySem.W.Frag} {x C l : Addr} {ox : Obj} {od : Option Obj}
open AutoSeq1 (wpAny_loadPart')
theorem str_ne_decl (b : PySem.Str) (u : Tok) (l C dx : Addr) : Meets (Builtin.«str.__ne__» ⟨[.str b u, .ref l], []⟩) (fun _ R s => s.heap.get? l = some (PySem.W.instObj C dx) ∧ R (.ok (.ret .notImplemented)) s) :=
  .of_wp fun prog w A R s q => by obtain ⟨h0, h1, h2, h3, h4⟩ := s; obtain ⟨hi, q⟩ := q; wp_walk using wpAny_loadPart' hi, wpAny_load hi; exact ⟨_, rfl, q⟩
theorem list_ne_declK (X : K.In s.heap) (I : PySem.W.InstAt s.heap x ox C od) (hsub : PySem.W.subIn K (.ref C) (.type "list") = some false) (q : R (.ok (.ret .notImplemented)) s) :
    wpAny (model prog w) A.in1 (Builtin.«list.__ne__» ⟨[.ref l, .ref x], []⟩) (GQ.FinOf prog w A R) (fun z s' => R (.error z) s') s := by
  unfold Builtin.«list.__ne__»
  show wpAny _ _ (do
    let k ← isInstance (.ref x) (.type "list")
    _) _ _ s
  exact wpAny_bind (ref_isInst X I hsub (wpAny_pure q))
theorem tup_ne_declK (X : K.In s.heap) (I : PySem.W.InstAt s.heap x ox C od) (hsub : PySem.W.subIn K (.ref C) (.type "tuple") = some false) (q : R (.ok (.ret .notImplemented)) s) :
    wpAny (model prog w) A.in1 (Builtin.«tuple.__ne__» ⟨[.ref l, .ref x], []⟩) (GQ.FinOf prog w A R) (fun z s' => R (.error z) s') s := by
  unfold Builtin.«tuple.__ne__»
  show wpAny _ _ (do
    let k ← isInstance (.ref x) (.type "tuple")
    _) _ _ s
  exact wpAny_bind (ref_isInst X I hsub (wpAny_pure q))
end
/-- the kinds that stand on the left of != here -/
inductive DecN (H : Hp) : V → String → Prop where
  | non : DecN H .non "NoneType"
  | int (i : Int) : DecN H (.int i) "int"
  | str (x : PySem.Str) : DecN H (.str x) "str"
  | lst {a : Addr} {xs : List V} (e : H a = some (.lst xs)) : DecN H (.ref a) "list"
  | tup {a : Addr} {xs : List V} (e : H a = some (.tup xs)) : DecN H (.ref a) "tuple"
theorem DecN.dec {H : Hp} {x : V} {T : String} (d : DecN H x T) : Dec H x T := by cases d with
  | non => exact .non
  | int i => exact .int i
  | str x => exact .str x
  | lst e => exact .lst e
  | tup e => exact .tup e
section
variable {X : Cx} {CX : CXT} {n : Nat} {C g : Addr} {fd : FuncData} {ps : List PySem.Str} {sp : Sp} {E : XK}
theorem decN_try {pins : List (Addr × Obj)} {σ : L2.St} {H : Hp} {s : Shared} {x : V} {v : Value} {T : String} {a dx : Addr} {od : Option Obj} (I : Inv X pins σ H s) (r : RelV x v) (d : DecN H x T)
    (J : PySem.W.InstAt s.heap a (PySem.W.instObj C dx) C od) (hsub : PySem.W.subIn X.K (.ref C) (.type T) = some false) {A : Around} {E : Value → Shared → Prop} {R : Option Value → Shared → Prop} (q : R none s) :
    wpAny (model X.prog X.w) A (tryCompare v "__ne__" (.ref a)) R E s := by
  cases d with
  | non =>
    cases (show v = Value.none from r)
    exact wpAny_tryCompare_declines (T := "NoneType") rfl F.slot_NoneType_ne (call_gives F.slot_NoneType_ne rfl F.entry_NoneType_ne (F.args_NoneType_ne_2 _ _) (PySem.SeqAt.NoneType___ne___none_ref_0 a) ⟨rfl, q⟩)
  | int i =>
    obtain ⟨t, e⟩ := (show ∃ t, v = Value.int i t from r)
    cases e
    exact wpAny_tryCompare_declines (typeIs_int s i t) F.slot_int_ne (call_meets F.slot_int_ne (typeIs_int s i t) F.entry_int_ne (F.args_int_ne_2 _ _) (int_ne_decl i t a C dx) ⟨J.at_, rfl, q⟩)
  | str y =>
    obtain ⟨t, e⟩ := (show ∃ t, v = Value.str y t from r)
    cases e
    exact wpAny_tryCompare_declines (typeIs_str s y t) F.slot_str_ne (call_meets F.slot_str_ne (typeIs_str s y t) F.entry_str_ne (F.args_str_ne_2 _ _) (str_ne_decl y t a C dx) ⟨J.at_, rfl, q⟩)
  | @lst b xs e =>
    cases (show v = Value.ref b from r)
    obtain ⟨_, its, k, _, h1⟩ := (show ObjOk X.prog X.w H s.heap b (.lst xs) from I.hok b _ e)
    exact wpAny_tryCompare_declines ⟨_, h1, rfl⟩ F.slot_list_ne (GQ.call_here F.slot_list_ne ⟨_, h1, rfl⟩ F.entry_list_ne (F.args_list_ne_2 _ _) (list_ne_declK I.kIn J hsub ⟨rfl, q⟩))
  | @tup b xs e =>
    cases (show v = Value.ref b from r)
    obtain ⟨_, its, _, o, h1, h2, _⟩ := (show ObjOk X.prog X.w H s.heap b (.tup xs) from I.hok b _ e)
    have hT : s.TypeIs (.ref b) "tuple" := ⟨o, h1, h2⟩
    exact wpAny_tryCompare_declines hT F.slot_tuple_ne (GQ.call_here F.slot_tuple_ne hT F.entry_tuple_ne (F.args_tuple_ne_2 _ _) (tup_ne_declK I.kIn J hsub ⟨rfl, q⟩))
def rOwnNeD (C : Addr) (sp : Sp) (E : XK) : R2 := fun x y H Q => ∃ T a dx fs, y = .ref a ∧ H a = some (.ins C dx fs) ∧ DecN H x T ∧ sp [y, x] H (neQ Q) E
theorem op_ownNeD (hne : PySem.W.findIn X.K (.ref C) "__ne__" = some (some (.builtin "object.__ne__"))) (hm : PySem.W.mroIn X.K C (.type "object") = some true)
    (hs : PySem.W.findIn X.K (.ref C) "__eq__" = some (some (.ref g))) (hf : PySem.W.isFn X.K (.ref g) = true) (hN : NoSub X.K C)
    (F : FnOk X.prog X.w X.K X.mg X.base CX n g fd ps sp) (hb : Binds X.K fd ps []) (hr : Room (n + 1) X.A) (hx : Passes CX X E) : OpR X (compareOp .NotEq) (rOwnNeD C sp E) := by
  intro pins s σ H x y v u Q I rx ry h
  obtain ⟨T, a, dx, fs, rfl, ha, d, q⟩ := h
  cases (show u = Value.ref a from ry)
  obtain ⟨od, J⟩ := inst_of I ha
  obtain ⟨P, kt, hP, _⟩ := kit_of I rx d.dec.typ
  have hsub := hN.all T d.dec.mem
  show wpAny (model X.prog X.w) X.A (richCompare .NotEq v (.ref a)) (EP X pins σ Q) X.xe s
  refine cmp_KR (op := .NotEq) (T := T) hr.units0 (dec_one rx d.dec _ _) (kt.ty _ _ I.kIn hP) I.kIn J hsub (fun E R hR => decN_try I rx d J hsub hR) ?_
  unfold tryCompare
  refine wpAny_bind (ifBound_B I.kIn J hne PySem.F.cmp_object.ne.bind (objNe_own hr.in1.units0 I.kIn J hm hs hf ?_))
  refine wpAny_mono (run_fnA (us := [.ref a, v]) (vs := [.ref a, x]) F hr.in1 rfl hb hx I (.cons rfl (.cons rx .nil)) q) (fun w s' z => ?_) fun _ _ x => x
  obtain ⟨z', H', I', rz, k, ez, qz⟩ := z
  subst ez
  cases (show w = Value.bool _ from rz)
  exact ⟨k, rfl, wpAny_pure ⟨_, rfl, .bl _, H', I', rfl, qz⟩⟩
end
end SK

/-! Entries (gaps and fractions), compared item by item; series; rows of the law. -/
namespace SK
open PySem PySem.Spec PyProof.Rows L2 SF SQ
abbrev Ent := Option Rat
/-- v is the entry o: None, or a fraction of at most n binary digits -/
def EN (C : Addr) (n : Nat) (H : Hp) (v : V) : Ent → Prop
  | none => v = .non
  | some q => ∃ a, v = .ref a ∧ RQ C H a n q
/-- .. or a whole number -/
def GN (C : Addr) (n : Nat) (H : Hp) (v : V) : Ent → Prop
  | none => v = .non
  | some q => ∃ k, NV C H k v n q
/-- as the law keeps it: None or a pair -/
def RN (n : Nat) (H : Hp) (v : V) : Ent → Prop
  | none => v = .non
  | some q => ∃ p, v = .ref p ∧ PQ H p n q
def All2 (P : V → Ent → Prop) (vs : List V) (rs : List Ent) : Prop := vs.length = rs.length ∧ ∀ (i : Nat) v r, vs[i]? = some v → rs[i]? = some r → P v r
theorem All2.get {P : V → Ent → Prop} {vs : List V} {rs : List Ent} (h : All2 P vs rs) {i : Nat} {v : V} (e : vs[i]? = some v) : ∃ r, rs[i]? = some r ∧ P v r := by
  have hl := (List.getElem?_eq_some_iff.mp e).1
  rw [h.1] at hl
  exact ⟨_, List.getElem?_eq_getElem hl, h.2 i v _ e (List.getElem?_eq_getElem hl)⟩
theorem All2.imp {P Q : V → Ent → Prop} {vs : List V} {rs : List Ent} (h : All2 P vs rs) (f : ∀ v r, P v r → Q v r) : All2 Q vs rs := ⟨h.1, fun i v r a b => f v r (h.2 i v r a b)⟩
theorem All2.nil {P : V → Ent → Prop} : All2 P [] [] := ⟨rfl, fun i v r h _ => by simp at h⟩
theorem All2.snoc {P : V → Ent → Prop} {vs : List V} {rs : List Ent} {v : V} {r : Ent} (h : All2 P vs rs) (p : P v r) : All2 P (vs ++ [v]) (rs ++ [r]) := by
  refine ⟨by rw [List.length_append, List.length_append, h.1]; rfl, fun i x y hx hy => ?_⟩
  by_cases hi : i < vs.length
  · rw [List.getElem?_append_left hi] at hx
    rw [List.getElem?_append_left (by rw [← h.1]; exact hi)] at hy
    exact h.2 i x y hx hy
  · have e : i = vs.length := by
      have h2 := (List.getElem?_eq_some_iff.mp hx).1
      rw [List.length_append] at h2
      simp at h2
      omega
    subst e
    rw [List.getElem?_append_right (Nat.le_refl _)] at hx
    rw [List.getElem?_append_right (by rw [h.1]; exact Nat.le_refl _), ← h.1] at hy
    simp at hx hy
    subst hx hy
    exact p
section
variable {C : Addr} {n : Nat} {H H' : Hp} {v : V} {r : Ent}
theorem EN.same (h : EN C n H v r) (s : Same H H') : EN C n H' v r := by
  cases r with
  | none => exact h
  | some q => obtain ⟨a, e, x⟩ := h; exact ⟨a, e, x.same s⟩
theorem GN.same (h : GN C n H v r) (s : Same H H') : GN C n H' v r := by
  cases r with
  | none => exact h
  | some q => obtain ⟨k, x⟩ := h; exact ⟨k, x.same s⟩
theorem RN.same (h : RN n H v r) (s : Same H H') : RN n H' v r := by
  cases r with
  | none => exact h
  | some q => obtain ⟨p, e, x⟩ := h; exact ⟨p, e, x.same s⟩
theorem rq_off {H : Hp} {a D : Addr} {o u : HO} {q : Rat} (h : RQ C H a n q) (hd : H D = some o) (ho : ∀ dx t b, o ≠ .ins C dx (rf t b)) : RQ C (upd H D u) a n q := by
  obtain ⟨⟨dx, e⟩, sz⟩ := h
  have ne : a ≠ D := fun z => by subst z; rw [e] at hd; exact ho _ _ _ (Option.some.inj hd).symm
  exact ⟨⟨dx, by rw [upd_ne ne]; exact e⟩, sz⟩
theorem EN.off {D : Addr} {o u : HO} (h : EN C n H v r) (hd : H D = some o) (ho : ∀ dx t b, o ≠ .ins C dx (rf t b)) : EN C n (upd H D u) v r := by
  cases r with
  | none => exact h
  | some q => obtain ⟨a, e, x⟩ := h; exact ⟨a, e, rq_off x hd ho⟩
theorem EN.offL {D : Addr} {xs zs : List V} (h : EN C n H v r) (hd : H D = some (.lst xs)) : EN C n (upd H D (.lst zs)) v r := h.off hd fun _ _ _ z => by cases z
theorem GN.offL {D : Addr} {xs zs : List V} (h : GN C n H v r) (hd : H D = some (.lst xs)) : GN C n (upd H D (.lst zs)) v r := by
  cases r with
  | none => exact h
  | some q =>
    obtain ⟨k, x⟩ := h
    refine ⟨k, ?_⟩
    cases k with
    | true => obtain ⟨a, e, x⟩ := x; exact ⟨a, e, rq_off x hd fun _ _ _ z => by cases z⟩
    | false => exact x
theorem RN.offL {D : Addr} {xs zs : List V} (h : RN n H v r) (hd : H D = some (.lst xs)) : RN n (upd H D (.lst zs)) v r := by
  cases r with
  | none => exact h
  | some q =>
    obtain ⟨p, e, x, sz⟩ := h
    refine ⟨p, e, ?_, sz⟩
    rw [upd_ne (fun z => by subst z; rw [x] at hd; cases hd)]
    exact x
end
/-! ### entries compared -/
def DEnt (C : Addr) (n : Nat) : EqD := fun x y H k => ∃ o o', EN C n H x o ∧ EN C n H y o' ∧ k = decide (o = o')
theorem DEnt.same {C : Addr} {n : Nat} (x y : V) (H H' : Hp) (k : Bool) (S : Same H H') (h : DEnt C n x y H k) : DEnt C n x y H' k := let ⟨o, o', a, b, c⟩ := h; ⟨o, o', a.same S, b.same S, c⟩
theorem eqBool_neq {prog : Program} {w : World} {A : Around} {E : Value → Shared → Prop} {s : Shared} {u v : Value} {Q : Bool → Shared → Prop} (hne : (u == v) = false) (hf : ∀ b t, u ≠ .float b t) (h : wpAny (model prog w) A (richCompare .Eq u v) (fun r s' => ∃ k, r = .bool k ∧ Q k s') E s) : wpAny (model prog w) A (eqBool u v) Q E s := by
  unfold eqBool
  refine wpAny_holding (wpAny_ite_split (fun z => by rw [hne] at z; cases z) fun _ => ?_)
  dsimp only
  split
  · rename_i h1
    exact absurd (congrArg Prod.fst h1) (hf _ _)
  · refine wpAny_bind (wpAny_mono h (fun r s' z => ?_) fun _ _ x => x)
    obtain ⟨k, rfl, q⟩ := z
    exact wpAny_truthy_bool q
section
variable {X : Cx} {C : Addr} {l n : Nat} {ps : List PySem.Str} {sp : Sp}
theorem own_eqL (D : Df X.prog X.w X.K X.mg X.base l ps sp) (hs : Has X.K C "__eq__" D.f) {A : Around} (sb : Sub X l A) {pins : List (Addr × Obj)} {s : Shared} {σ : L2.St} {H : Hp} {a dx : Addr} {fs : List (PySem.Str × V)} {y : V} {v tb : Value} {k : Bool} (I : Inv X pins σ H s) (ha : H a = some (.ins C dx fs)) (ry : RelV y v) (ty : TyX X.K H y tb) (hn : PySem.W.notFirst X.K C tb = true) (hsp : ∀ Q : VK, Q (.bl k) H → sp [.ref a, y] H Q E0) :
    wpAny (model X.prog X.w) A (richCompare .Eq (.ref a) v) (fun r s' => ∃ k', r = .bool k' ∧ (k' = k ∧ ∃ H', Inv X pins σ H' s' ∧ Same H H')) X.xe s := by
  obtain ⟨od, J⟩ := inst_of I ha
  obtain ⟨P, kt, hP, _⟩ := kit_of I ry ty
  obtain ⟨m, hF⟩ := I.fr
  refine PySem.W.cmp_K (op := .Eq) (tb := tb) sb.room.units0 hF I.ok.mod.kin J (kt.ty _ _ I.kIn hP) hn hs.h hs.i ?_
  refine wpAny_mono (run_fnA (us := [.ref a, v]) (vs := [.ref a, y]) D.G sb.room sb.fr D.b pass0 I (.cons rfl (.cons ry .nil)) (hsp (fun z H' => z = .bl k ∧ Same H H') ⟨rfl, Same.refl _⟩)) (fun w s' z => ?_) fun _ _ x => x
  obtain ⟨z', H', I', rz, ez, S⟩ := z
  subst ez
  cases (show w = Value.bool _ from rz)
  exact ⟨_, rfl, rfl, H', I', S⟩
theorem own_eqR (D : Df X.prog X.w X.K X.mg X.base l ps sp) (hs : Has X.K C "__eq__" D.f) (hN : NoSub X.K C) {A : Around} (sb : Sub X l A) {pins : List (Addr × Obj)} {s : Shared} {σ : L2.St} {H : Hp} {a dx : Addr} {fs : List (PySem.Str × V)} {x : V} {T : String} {v : Value} {k : Bool} (I : Inv X pins σ H s) (ha : H a = some (.ins C dx fs)) (rx : RelV x v) (d : Dec H x T) (hsp : ∀ Q : VK, Q (.bl k) H → sp [.ref a, x] H Q E0) :
    wpAny (model X.prog X.w) A (richCompare .Eq v (.ref a)) (fun r s' => ∃ k', r = .bool k' ∧ (k' = k ∧ ∃ H', Inv X pins σ H' s' ∧ Same H H')) X.xe s := by
  obtain ⟨od, J⟩ := inst_of I ha
  obtain ⟨P, kt, hP, _⟩ := kit_of I rx d.typ
  have hsub := hN.all T d.mem
  refine cmp_KR (op := .Eq) (T := T) sb.room.units0 (dec_one rx d _ _) (kt.ty _ _ I.kIn hP) I.kIn J hsub (fun E R hR => dec_try I rx d J hsub hR) ?_
  unfold tryCompare
  refine wpAny_bind (PySem.W.ifBound_K I.kIn J hs.h hs.i ?_)
  refine wpAny_mono (run_fnA (us := [.ref a, v]) (vs := [.ref a, x]) D.G sb.room sb.fr D.b pass0 I (.cons rfl (.cons rx .nil)) (hsp (fun z H' => z = .bl k ∧ Same H H') ⟨rfl, Same.refl _⟩)) (fun w s' z => ?_) fun _ _ x => x
  obtain ⟨z', H', I', rz, ez, S⟩ := z
  subst ez
  cases (show w = Value.bool _ from rz)
  exact wpAny_pure ⟨_, rfl, _, rfl, rfl, H', I', S⟩
theorem eqB_ent (T : RC X.K X.mg C) (hz : PySem.W.subIn X.K (.type "NoneType") (.ref C) = some false) (hN : NoSub X.K C) (D : Df X.prog X.w X.K X.mg X.base l ps (spEq C)) (hs : Has X.K C "__eq__" D.f) : EqB X l (DEnt C n) := by
  intro A pins s σ H x y u v k sb I rx ry d
  obtain ⟨o, o', ex, ey, rfl⟩ := d
  have nfN : PySem.W.notFirst X.K C (.type "NoneType") = true := by simp [PySem.W.notFirst, hz]
  cases o with
  | none =>
    have ex : x = .non := ex
    subst ex
    cases (show u = Value.none from rx)
    cases o' with
    | none =>
      have ey : y = .non := ey
      subst ey
      cases (show v = Value.none from ry)
      exact SeqAt.EqAt.same (A := A) (s := s) .none X.prog X.w X.xe _ ⟨by simp, H, I, Same.refl _⟩
    | some q =>
      obtain ⟨b, rfl, ⟨dx, hb⟩, sz⟩ := ey
      cases (show v = Value.ref b from ry)
      refine eqBool_neq rfl (fun _ _ z => by cases z) (own_eqR D hs hN sb I hb rx .non fun Q z => ⟨b, n, q, .non, rfl, ⟨⟨dx, hb⟩, sz⟩, .inr ⟨_, .non, ?_⟩⟩)
      simpa [eqO] using z
  | some q =>
    obtain ⟨a, rfl, ⟨dx, ha⟩, sz⟩ := ex
    cases (show u = Value.ref a from rx)
    cases o' with
    | none =>
      have ey : y = .non := ey
      subst ey
      cases (show v = Value.none from ry)
      refine eqBool_neq rfl (fun _ _ z => by cases z) (own_eqL D hs sb I ha ry (Dec.typ .non) nfN fun Q z => ⟨a, n, q, .non, rfl, ⟨⟨dx, ha⟩, sz⟩, .inr ⟨_, .non, ?_⟩⟩)
      simpa [eqO] using z
    | some r =>
      obtain ⟨b, rfl, rb⟩ := ey
      cases (show v = Value.ref b from ry)
      by_cases hab : a = b
      · subst hab
        have e : q = r := by
          obtain ⟨⟨dy, hb⟩, _⟩ := rb
          rw [ha] at hb
          injection hb with hb
          injection hb with _ _ hf
          have e1 : q.num = r.num := by
            have := congrArg (fun f => List.lookup ("_top" : PySem.Str) f) hf
            simp only [rf_top] at this
            exact V.int.inj (Option.some.inj this)
          have e2 : (q.den : Int) = (r.den : Int) := by
            have := congrArg (fun f => List.lookup ("_bottom" : PySem.Str) f) hf
            simp only [rf_bot] at this
            exact V.int.inj (Option.some.inj this)
          exact Rat.ext e1 (Int.ofNat.inj e2)
        subst e
        exact SeqAt.EqAt.same (A := A) (s := s) (.ref a) X.prog X.w X.xe _ ⟨by simp, H, I, Same.refl _⟩
      · refine eqBool_neq (by simpa using hab) (fun _ _ z => by cases z) (own_eqL D hs sb I ha ry (RC.typ T rb.1) nfC fun Q z => ⟨a, n, q, .ref b, rfl, ⟨⟨dx, ha⟩, sz⟩, .inl ⟨true, n, r, ⟨b, rfl, rb⟩, ?_⟩⟩)
        simpa using z
end
end SK

/-! Class methods called by keyword alone. -/
namespace SF
open PySem PySem.Spec PyProof.Rows L2
def tCMethK (C : Addr) (n : Nat) (sp : Sp) (gV : List V → List V → List V) (E : XK) (ta : TE) (tk : TA) : TE := fun σ H Q => ta σ H fun x H1 => x = .ref C ∧ tk σ H1 fun zs H2 => zs.length = n ∧ sp (gV [.ref C] zs) H2 Q E
section
variable {X : Cx} {CX : CXT} {k : Nat} {C q f : Addr} {mc : Value} {fd : FuncData} {ps ks : List Str} {sp : Sp} {E : XK} {m : Str} {pos apos : Pos} {o : Expr} {kws : List Keyword} {ta : TE} {tk : TA} {g : List Value → List Value → List Value} {gV : List V → List V → List V}
/-- C.m(f = e, ..), m a class method -/
theorem pe_cmethKW {pl : Sem Bool} (he : PE X o ta) (r : ClX.CRead X.K C mc) (c : ClX.CMet X.K C mc m q f) (F : FnOk X.prog X.w X.K X.mg X.base CX k f fd ps sp) (hr : Room k X.A) (hb : KBn X.K fd ps 1 ks g gV) (hx : Passes CX X E) (hkw : PK X kws tk)
    (hall : (backToKw pos (keywordEach kws X.env)).all (·.1.isSome) = true := by rfl) (hks : (backToKw pos (keywordEach kws X.env)).filterMap (·.1) = ks := by rfl)
    (hpl : ((backTo pos (starEach [] X.env)).any (·.1) || (backToKw pos (keywordEach kws X.env)).any (·.1.isNone)) = false := by rfl)
    (ht : eval (.Call (.Attribute o m apos) [] kws pos) X.env = (do
      let ov ← eval o X.env
      standAt apos.atName
      let (f, first) ← holding [ov] (getMethod ov m pl)
      callWith pos f first (backTo pos (starEach [] X.env)) (backToKw pos (keywordEach kws X.env))) := by rfl) :
    PE X (.Call (.Attribute o m apos) [] kws pos) (tCMethK C ks.length sp gV E ta tk) := by
  refine ⟨fun pins s σ H Q I h => ?_⟩
  refine PySem.W.methodCall_KW (pl := pl) (thn (he.run pins s σ H _ I h) fun u s1 ⟨x, H1, I1, rx, ex, z⟩ => ?_) ht
  subst ex
  obtain rfl : u = Value.ref C := rx
  refine ClX.getmethcm_ok I1 r c fun s2 I2 => ?_
  refine callwith_met (a := C) (g := f) hpl c.fi ?_
  refine PyProof.Rows.evalArgs_kw2_nil hall (thn (hkw.run pos _ s2 σ H1 _ I2 z) fun ws s3 ⟨zs, H2, I3, rz, l2, q2⟩ => ⟨⟨ClX.pin_at I3, I3.kIn⟩, ?_⟩)
  rw [hks]
  refine wpAny_call (codeAny_mono (PySem.W.method_call (ClX.pin_at I3) (F.run X.A X.stack s3 H2 ⟨[.ref C], ks.zip ws⟩ (g [.ref C] ws) (gV [.ref C] zs) Q E hr I3.env0 (hb.to s3 [.ref C] ws I3.kIn rfl (rz.length.symm.trans l2)) (hb.rel (.cons rfl .nil) rz) q2)) fun r s' hq => ?_)
  cases r with
  | error e => exact hx _ σ H2 s3 e s' I3 hq
  | ok fl =>
    cases fl with
    | ret u => exact ClX.unpinE (I3.after hq)
    | next => exact False.elim hq
    | brk => exact False.elim hq
    | cont => exact False.elim hq
end
end SF

/-! What stands in the text for the class of series; where a series stands. -/
namespace SK
open PySem PySem.Spec PyProof.Rows L2 SF SQ
/-- no built-in kind is derived from the class, nor it from one -/
structure NoSubs (K : PySem.W.Frag) (C : Addr) : Prop where
  up : NoSub K C
  dn : ∀ T ∈ kinds, PySem.W.subIn K (.type T) (.ref C) = some false
structure SerK (K : PySem.W.Frag) (S : Addr) : Prop where
  ns : NoSubs K S
  kB : ∀ T ∈ kinds, PySem.W.kitOne K (.type T) (.ref S) = some false
  kS : PySem.W.kitOne K (.ref S) (.ref S) = some true
  ca : PySem.W.findIn K (.ref S) "__class__" = some (some (.builtin "object.__class__"))
  cn : PySem.W.specialIn K (.builtin "object.__class__") "__get__" = some (some (.builtin "getset_descriptor.__get__"))
  ct : PySem.W.takesIn K (.builtin "object.__class__") = some true
  cm : PySem.W.mroIn K S (.type "object") = some true
  ne : PySem.W.findIn K (.ref S) "__ne__" = some (some (.builtin "object.__ne__"))
  nb : PySem.W.findIn K (.ref S) "__bool__" = some none
theorem NoSubs.nf {K : PySem.W.Frag} {C : Addr} (h : NoSubs K C) {T : String} (m : T ∈ kinds) : PySem.W.notFirst K C (.type T) = true := by simp [PySem.W.notFirst, h.dn T m]
/-- the fields of a series -/
abbrev sf1 (t : Addr) : List (PySem.Str × V) := putF "_entries" (.ref t) []
/-- the series of these entries stands at a -/
def SerAt (C S : Addr) (n : Nat) (H : Hp) (a : Addr) (rs : List Ent) : Prop := ∃ dx t vs, H a = some (.ins S dx (sf1 t)) ∧ H t = some (.tup vs) ∧ All2 (EN C n H) vs rs ∧ rs.length ≤ 400
def TupE (C : Addr) (n : Nat) (H : Hp) (t : Addr) (rs : List Ent) : Prop := ∃ vs, H t = some (.tup vs) ∧ All2 (EN C n H) vs rs
def TupG (C : Addr) (n : Nat) (H : Hp) (t : Addr) (rs : List Ent) : Prop := ∃ vs, H t = some (.tup vs) ∧ All2 (GN C n H) vs rs
def RowAt (n : Nat) (H : Hp) (p : Addr) (rs : List Ent) : Prop := ∃ vs, H p = some (.lst vs) ∧ All2 (RN n H) vs rs
theorem SerAt.same {C S : Addr} {n : Nat} {H H' : Hp} {a : Addr} {rs : List Ent} (h : SerAt C S n H a rs) (s : Same H H') : SerAt C S n H' a rs := let ⟨dx, t, vs, h1, h2, h3, h4⟩ := h; ⟨dx, t, vs, s _ _ h1, s _ _ h2, h3.imp fun _ _ z => z.same s, h4⟩
theorem TupE.same {C : Addr} {n : Nat} {H H' : Hp} {a : Addr} {rs : List Ent} (h : TupE C n H a rs) (s : Same H H') : TupE C n H' a rs := let ⟨vs, h2, h3⟩ := h; ⟨vs, s _ _ h2, h3.imp fun _ _ z => z.same s⟩
theorem TupG.same {C : Addr} {n : Nat} {H H' : Hp} {a : Addr} {rs : List Ent} (h : TupG C n H a rs) (s : Same H H') : TupG C n H' a rs := let ⟨vs, h2, h3⟩ := h; ⟨vs, s _ _ h2, h3.imp fun _ _ z => z.same s⟩
theorem RowAt.same {n : Nat} {H H' : Hp} {a : Addr} {rs : List Ent} (h : RowAt n H a rs) (s : Same H H') : RowAt n H' a rs := let ⟨vs, h2, h3⟩ := h; ⟨vs, s _ _ h2, h3.imp fun _ _ z => z.same s⟩
theorem EN.gn {C : Addr} {n : Nat} {H : Hp} {v : V} {r : Ent} (h : EN C n H v r) : GN C n H v r := by
  cases r with
  | none => exact h
  | some q => obtain ⟨a, e, x⟩ := h; exact ⟨true, a, e, x⟩
theorem TupE.g {C : Addr} {n : Nat} {H : Hp} {a : Addr} {rs : List Ent} (h : TupE C n H a rs) : TupG C n H a rs := let ⟨vs, h2, h3⟩ := h; ⟨vs, h2, h3.imp fun _ _ z => z.gn⟩
theorem SerAt.tup {C S : Addr} {n : Nat} {H : Hp} {a : Addr} {rs : List Ent} (h : SerAt C S n H a rs) : ∃ dx t, H a = some (.ins S dx (sf1 t)) ∧ TupE C n H t rs ∧ rs.length ≤ 400 := let ⟨dx, t, vs, h1, h2, h3, h4⟩ := h; ⟨dx, t, h1, ⟨vs, h2, h3⟩, h4⟩
def estr : Ent → PySem.Str
  | none => ("_" : PySem.Str)
  | some q => rstr q
def erep : Ent → PySem.Str
  | none => ("None" : PySem.Str)
  | some q => rrepr q
def line (rs : List Ent) : PySem.Str := Txt.join (" " : PySem.Str) (rs.map estr)
end SK

namespace T07
open PySem PySem.Spec PyProof.Rows L2 SF SQ
def top (i : Nat) : Stmt := PySem.Challenge.pw_seriesforms_k07_series_made.main.body.getD i (.Pass ⟨0, 0, 0, 0⟩)
abbrev sIni : Stmt := inClass (top 14) 0
abbrev sRd : Stmt := inClass (top 14) 1
abbrev sSI : Stmt := inClass (top 26) 0
abbrev sSR : Stmt := inClass (top 26) 1
abbrev sIsW : Stmt := top 12
theorem scIsW : FnScope ["value"] ["value"] (defScope sIsW) := ⟨rfl, rfl, rfl, by decide +kernel, rfl, by decide +kernel, by decide +kernel⟩
abbrev sIsN : Stmt := top 13
theorem scIsN : FnScope ["value"] ["value"] (defScope sIsN) := ⟨rfl, rfl, rfl, by decide +kernel, rfl, by decide +kernel, by decide +kernel⟩
abbrev sAs : Stmt := top 15
theorem scAs : FnScope ["number"] ["number"] (defScope sAs) := ⟨rfl, rfl, rfl, by decide +kernel, rfl, by decide +kernel, by decide +kernel⟩
abbrev sIsT : Stmt := top 22
theorem scIsT : FnScope ["text", "top", "stroke", "bottom"] ["text"] (defScope sIsT) := ⟨rfl, rfl, rfl, by decide +kernel, rfl, by decide +kernel, by decide +kernel⟩
abbrev sIsP : Stmt := top 23
theorem scIsP : FnScope ["text"] ["text"] (defScope sIsP) := ⟨rfl, rfl, rfl, by decide +kernel, rfl, by decide +kernel, by decide +kernel⟩
abbrev sTop : Stmt := inClass (top 14) 2
theorem scTop : FnScope ["self"] ["self"] (defScope sTop) := ⟨rfl, rfl, rfl, by decide +kernel, rfl, by decide +kernel, by decide +kernel⟩
abbrev sBot : Stmt := inClass (top 14) 3
theorem scBot : FnScope ["self"] ["self"] (defScope sBot) := ⟨rfl, rfl, rfl, by decide +kernel, rfl, by decide +kernel, by decide +kernel⟩
abbrev sEq : Stmt := inClass (top 14) 18
theorem scEq : FnScope ["self", "other"] ["self", "other"] (defScope sEq) := ⟨rfl, rfl, rfl, by decide +kernel, rfl, by decide +kernel, by decide +kernel⟩
abbrev sStr : Stmt := inClass (top 14) 19
theorem scStr : FnScope ["self"] ["self"] (defScope sStr) := ⟨rfl, rfl, rfl, by decide +kernel, rfl, by decide +kernel, by decide +kernel⟩
abbrev sRepr : Stmt := inClass (top 14) 20
theorem scRepr : FnScope ["self"] ["self"] (defScope sRepr) := ⟨rfl, rfl, rfl, by decide +kernel, rfl, by decide +kernel, by decide +kernel⟩
abbrev sSLen : Stmt := inClass (top 26) 4
theorem scSLen : FnScope ["self"] ["self"] (defScope sSLen) := ⟨rfl, rfl, rfl, by decide +kernel, rfl, by decide +kernel, by decide +kernel⟩
abbrev sSEq : Stmt := inClass (top 26) 5
theorem scSEq : FnScope ["self", "other"] ["self", "other"] (defScope sSEq) := ⟨rfl, rfl, rfl, by decide +kernel, rfl, by decide +kernel, by decide +kernel⟩
abbrev sSStr : Stmt := inClass (top 26) 6
theorem scSStr : FnScope ["self", "entry"] ["self"] (defScope sSStr) := ⟨rfl, rfl, rfl, by decide +kernel, rfl, by decide +kernel, by decide +kernel⟩
abbrev sSRepr : Stmt := inClass (top 26) 7
theorem scSRepr : FnScope ["self"] ["self"] (defScope sSRepr) := ⟨rfl, rfl, rfl, by decide +kernel, rfl, by decide +kernel, by decide +kernel⟩
abbrev sSEnt : Stmt := inClass (top 26) 2
theorem scSEnt : FnScope ["self"] ["self"] (defScope sSEnt) := ⟨rfl, rfl, rfl, by decide +kernel, rfl, by decide +kernel, by decide +kernel⟩
abbrev sSMis : Stmt := inClass (top 26) 3
theorem scSMis : FnScope ["self", "place", "entry"] ["self"] (defScope sSMis) := ⟨rfl, rfl, rfl, by decide +kernel, rfl, by decide +kernel, by decide +kernel⟩
abbrev sREnt : Stmt := top 27
theorem scREnt : FnScope ["word", "text"] ["word", "text"] (defScope sREnt) := ⟨rfl, rfl, rfl, by decide +kernel, rfl, by decide +kernel, by decide +kernel⟩
abbrev sCell : Stmt := top 29
theorem scCell : FnScope ["_law_cells", "_law_k", "_law_mixed", "_law_cell_here"] ["_law_cells", "_law_k"] (defScope sCell) := ⟨rfl, rfl, rfl, by decide +kernel, rfl, by decide +kernel, by decide +kernel⟩
abbrev sSrc : Stmt := top 30
theorem scSrc : FnScope ["_law_cell_here", "_law_great"] ["_law_cell_here"] (defScope sSrc) := ⟨rfl, rfl, rfl, by decide +kernel, rfl, by decide +kernel, by decide +kernel⟩
abbrev sDraw : Stmt := top 31
theorem scDraw : FnScope ["_law_source_here", "_law_many", "_law_first", "_law_turned", "_law_digit"] ["_law_source_here", "_law_many"] (defScope sDraw) := ⟨rfl, rfl, rfl, by decide +kernel, rfl, by decide +kernel, by decide +kernel⟩
abbrev sCom : Stmt := top 32
theorem scCom : FnScope ["_law_one", "_law_two", "_law_high", "_law_low"] ["_law_one", "_law_two"] (defScope sCom) := ⟨rfl, rfl, rfl, by decide +kernel, rfl, by decide +kernel, by decide +kernel⟩
abbrev sLow : Stmt := top 33
theorem scLow : FnScope ["_law_upper", "_law_lower", "_law_by"] ["_law_upper", "_law_lower"] (defScope sLow) := ⟨rfl, rfl, rfl, by decide +kernel, rfl, by decide +kernel, by decide +kernel⟩
abbrev sWho : Stmt := top 34
theorem scWho : FnScope ["_law_source_here", "_law_way", "_law_sign", "_law_parts"] ["_law_source_here"] (defScope sWho) := ⟨rfl, rfl, rfl, by decide +kernel, rfl, by decide +kernel, by decide +kernel⟩
abbrev sPair : Stmt := top 35
theorem scPair : FnScope ["_law_source_here", "_law_way", "_law_lower"] ["_law_source_here"] (defScope sPair) := ⟨rfl, rfl, rfl, by decide +kernel, rfl, by decide +kernel, by decide +kernel⟩
abbrev sNum : Stmt := top 36
theorem scNum : FnScope ["_law_pair_here"] ["_law_pair_here"] (defScope sNum) := ⟨rfl, rfl, rfl, by decide +kernel, rfl, by decide +kernel, by decide +kernel⟩
abbrev sEnt : Stmt := top 37
theorem scEnt : FnScope ["_law_source_here"] ["_law_source_here"] (defScope sEnt) := ⟨rfl, rfl, rfl, by decide +kernel, rfl, by decide +kernel, by decide +kernel⟩
abbrev sRow : Stmt := top 38
theorem scRow : FnScope ["_law_source_here", "_law_way", "_law_held", "_law_k"] ["_law_source_here"] (defScope sRow) := ⟨rfl, rfl, rfl, by decide +kernel, rfl, by decide +kernel, by decide +kernel⟩
abbrev sGiv : Stmt := top 39
theorem scGiv : FnScope ["_law_source_here", "_law_row_here", "_law_found", "_law_pair_here"] ["_law_source_here", "_law_row_here"] (defScope sGiv) := ⟨rfl, rfl, rfl, by decide +kernel, rfl, by decide +kernel, by decide +kernel⟩
abbrev sWri : Stmt := top 40
theorem scWri : FnScope ["_law_row_here", "_law_pair_here"] ["_law_row_here"] (defScope sWri) := ⟨rfl, rfl, rfl, by decide +kernel, rfl, by decide +kernel, by decide +kernel⟩
abbrev sSho : Stmt := top 41
theorem scSho : FnScope ["_law_made", "_law_row_here", "_law_due", "_law_pair_here", "_law_entry_here", "_law_missing", "_law_spot", "_law_line", "_law_seen"] ["_law_made", "_law_row_here"] (defScope sSho) := ⟨rfl, rfl, rfl, by decide +kernel, rfl, by decide +kernel, by decide +kernel⟩
abbrev sOth : Stmt := top 42
theorem scOth : FnScope ["_law_source_here", "_law_row_here", "_law_way", "_law_spot"] ["_law_source_here", "_law_row_here"] (defScope sOth) := ⟨rfl, rfl, rfl, by decide +kernel, rfl, by decide +kernel, by decide +kernel⟩
abbrev sRight : Stmt := top 43
theorem scRight : FnScope ["_law_source_here", "_law_row_here", "_law_line", "_law_held", "_law_some", "_law_made", "_law_mate", "_law_far", "_law_seen", "_law_more", "_law_thing"] ["_law_source_here"] (defScope sRight) := ⟨rfl, rfl, rfl, by decide +kernel, rfl, by decide +kernel, by decide +kernel⟩
abbrev sLaw : Stmt := top 44
theorem scLaw : FnScope ["_law_cells", "_law_k", "_law_source_here", "_law_turn"] ["_law_cells"] (defScope sLaw) := ⟨rfl, rfl, rfl, by decide +kernel, rfl, by decide +kernel, by decide +kernel⟩
theorem scIni : FnScope ["self", "top", "bottom", "common"] ["self", "top", "bottom"] (defScope sIni) := ⟨rfl, rfl, rfl, by decide +kernel, rfl, by decide +kernel, by decide +kernel⟩
theorem scRd : FnScope ["cls", "text", "top", "stroke", "bottom"] ["cls", "text"] (defScope sRd) := ⟨rfl, rfl, rfl, by decide +kernel, rfl, by decide +kernel, by decide +kernel⟩
theorem scSI : FnScope ["self", "entries", "entry"] ["self", "entries"] (defScope sSI) := ⟨rfl, rfl, rfl, by decide +kernel, rfl, by decide +kernel, by decide +kernel⟩
theorem scSR : FnScope ["cls", "text", "word"] ["cls", "text"] (defScope sSR) := ⟨rfl, rfl, rfl, by decide +kernel, rfl, by decide +kernel, by decide +kernel⟩
/-- the text's facts -/
structure Tx (K : PySem.W.Frag) (mg : Str → Option Value) (C : Addr) where
  rc : RC K mg C
  kI : PySem.W.kitOne K (.ref C) (.type "int") = some false
  len : mg "len" = none
  dvm : mg "divmod" = none
  max_ : mg "max" = none
  min_ : mg "min" = none
  all_ : mg "all" = none
  aIni : Addr
  dIni : FuncData
  dv : List Value
  vv : Vals [V.int 1] dv
  FIni : FunD K "__init__" "Ratio.__init__" (defArgs sIni) (defBody sIni) (defScope sIni) [V.int 1] [] aIni dIni
  M : Mk K C aIni
  b2 : Binds K dIni ["self", "top", "bottom"] []
  b1 : Binds K dIni ["self", "top", "bottom"] dv
  hNe : Ne0 K C
  sIC : NoInt K C
  S : Addr
  gS : mg "Series" = some (.ref S)
  clS : Cls K S
  nE : NoAttr K S "_entries"
  aSI : Addr
  dSI : FuncData
  FSI : Fun K "__init__" "Series.__init__" sSI aSI dSI
  bSI : Binds K dSI ["self", "entries"] []
  MS : Mk K S aSI
  sk : SK.SerK K S
  cS : SK.NoSubs K C
  aSR : Addr
  dSR : FuncData
  FSR : Fun K "read" "Series.read" sSR aSR dSR
  bSR : Binds K dSR ["cls", "text"] []
  pSR : Addr
  mcS : Value
  rSR : ClX.CRead K S mcS
  cSR : ClX.CMet K S mcS "read" pSR aSR
  tkG : Tok
  gap : mg "GAP" = some (.str "_" tkG)
  enum : mg "enumerate" = none
  tup : mg "tuple" = none
  lst : mg "list" = none
  aET : Addr
  gET : mg "InvalidText" = some (.ref aET)
  aIsW : Addr
  dIsW : FuncData
  FIsW : Fun K "is_whole" "is_whole" sIsW aIsW dIsW
  bIsW : Binds K dIsW ["value"] []
  gIsW : mg "is_whole" = some (.ref aIsW)
  aIsN : Addr
  dIsN : FuncData
  FIsN : Fun K "is_number" "is_number" sIsN aIsN dIsN
  bIsN : Binds K dIsN ["value"] []
  gIsN : mg "is_number" = some (.ref aIsN)
  aAs : Addr
  dAs : FuncData
  FAs : Fun K "as_ratio" "as_ratio" sAs aAs dAs
  bAs : Binds K dAs ["number"] []
  gAs : mg "as_ratio" = some (.ref aAs)
  aIsT : Addr
  dIsT : FuncData
  FIsT : Fun K "_is_text" "_is_text" sIsT aIsT dIsT
  bIsT : Binds K dIsT ["text"] []
  gIsT : mg "_is_text" = some (.ref aIsT)
  aIsP : Addr
  dIsP : FuncData
  FIsP : Fun K "_is_positive_text" "_is_positive_text" sIsP aIsP dIsP
  bIsP : Binds K dIsP ["text"] []
  gIsP : mg "_is_positive_text" = some (.ref aIsP)
  aTop : Addr
  dTop : FuncData
  FTop : Fun K "top" "Ratio.top" sTop aTop dTop
  bTop : Binds K dTop ["self"] []
  pTop : Addr
  PTop : PropOf K C "top" pTop aTop
  aBot : Addr
  dBot : FuncData
  FBot : Fun K "bottom" "Ratio.bottom" sBot aBot dBot
  bBot : Binds K dBot ["self"] []
  pBot : Addr
  PBot : PropOf K C "bottom" pBot aBot
  aEq : Addr
  dEq : FuncData
  FEq : Fun K "__eq__" "Ratio.__eq__" sEq aEq dEq
  bEq : Binds K dEq ["self", "other"] []
  hEq : Has K C "__eq__" aEq
  aStr : Addr
  dStr : FuncData
  FStr : Fun K "__str__" "Ratio.__str__" sStr aStr dStr
  bStr : Binds K dStr ["self"] []
  hStr : Has K C "__str__" aStr
  aRepr : Addr
  dRepr : FuncData
  FRepr : Fun K "__repr__" "Ratio.__repr__" sRepr aRepr dRepr
  bRepr : Binds K dRepr ["self"] []
  hRepr : Has K C "__repr__" aRepr
  aSLen : Addr
  dSLen : FuncData
  FSLen : Fun K "__len__" "Series.__len__" sSLen aSLen dSLen
  bSLen : Binds K dSLen ["self"] []
  hSLen : Has K S "__len__" aSLen
  aSEq : Addr
  dSEq : FuncData
  FSEq : Fun K "__eq__" "Series.__eq__" sSEq aSEq dSEq
  bSEq : Binds K dSEq ["self", "other"] []
  hSEq : Has K S "__eq__" aSEq
  aSStr : Addr
  dSStr : FuncData
  FSStr : Fun K "__str__" "Series.__str__" sSStr aSStr dSStr
  bSStr : Binds K dSStr ["self"] []
  hSStr : Has K S "__str__" aSStr
  aSRepr : Addr
  dSRepr : FuncData
  FSRepr : Fun K "__repr__" "Series.__repr__" sSRepr aSRepr dSRepr
  bSRepr : Binds K dSRepr ["self"] []
  hSRepr : Has K S "__repr__" aSRepr
  aSEnt : Addr
  dSEnt : FuncData
  FSEnt : Fun K "entries" "Series.entries" sSEnt aSEnt dSEnt
  bSEnt : Binds K dSEnt ["self"] []
  pSEnt : Addr
  PSEnt : PropOf K S "entries" pSEnt aSEnt
  aSMis : Addr
  dSMis : FuncData
  FSMis : Fun K "missing" "Series.missing" sSMis aSMis dSMis
  bSMis : Binds K dSMis ["self"] []
  pSMis : Addr
  PSMis : PropOf K S "missing" pSMis aSMis
  aREnt : Addr
  dREnt : FuncData
  FREnt : Fun K "_read_entry" "_read_entry" sREnt aREnt dREnt
  bREnt : Binds K dREnt ["word", "text"] []
  gREnt : mg "_read_entry" = some (.ref aREnt)
  aCell : Addr
  dCell : FuncData
  FCell : Fun K "_law_cell" "_law_cell" sCell aCell dCell
  bCell : Binds K dCell ["_law_cells", "_law_k"] []
  gCell : mg "_law_cell" = some (.ref aCell)
  aSrc : Addr
  dSrc : FuncData
  FSrc : Fun K "_law_source" "_law_source" sSrc aSrc dSrc
  bSrc : Binds K dSrc ["_law_cell_here"] []
  gSrc : mg "_law_source" = some (.ref aSrc)
  aDraw : Addr
  dDraw : FuncData
  FDraw : Fun K "_law_draw" "_law_draw" sDraw aDraw dDraw
  bDraw : Binds K dDraw ["_law_source_here", "_law_many"] []
  gDraw : mg "_law_draw" = some (.ref aDraw)
  aCom : Addr
  dCom : FuncData
  FCom : Fun K "_law_common" "_law_common" sCom aCom dCom
  bCom : Binds K dCom ["_law_one", "_law_two"] []
  gCom : mg "_law_common" = some (.ref aCom)
  aLow : Addr
  dLow : FuncData
  FLow : Fun K "_law_lowest" "_law_lowest" sLow aLow dLow
  bLow : Binds K dLow ["_law_upper", "_law_lower"] []
  gLow : mg "_law_lowest" = some (.ref aLow)
  aWho : Addr
  dWho : FuncData
  FWho : Fun K "_law_whole" "_law_whole" sWho aWho dWho
  bWho : Binds K dWho ["_law_source_here"] []
  gWho : mg "_law_whole" = some (.ref aWho)
  aPair : Addr
  dPair : FuncData
  FPair : Fun K "_law_pair" "_law_pair" sPair aPair dPair
  bPair : Binds K dPair ["_law_source_here"] []
  gPair : mg "_law_pair" = some (.ref aPair)
  aNum : Addr
  dNum : FuncData
  FNum : Fun K "_law_number_text" "_law_number_text" sNum aNum dNum
  bNum : Binds K dNum ["_law_pair_here"] []
  gNum : mg "_law_number_text" = some (.ref aNum)
  aEnt : Addr
  dEnt : FuncData
  FEnt : Fun K "_law_entry" "_law_entry" sEnt aEnt dEnt
  bEnt : Binds K dEnt ["_law_source_here"] []
  gEnt : mg "_law_entry" = some (.ref aEnt)
  aRow : Addr
  dRow : FuncData
  FRow : Fun K "_law_row" "_law_row" sRow aRow dRow
  bRow : Binds K dRow ["_law_source_here"] []
  gRow : mg "_law_row" = some (.ref aRow)
  aGiv : Addr
  dGiv : FuncData
  FGiv : Fun K "_law_given" "_law_given" sGiv aGiv dGiv
  bGiv : Binds K dGiv ["_law_source_here", "_law_row_here"] []
  gGiv : mg "_law_given" = some (.ref aGiv)
  aWri : Addr
  dWri : FuncData
  FWri : Fun K "_law_written" "_law_written" sWri aWri dWri
  bWri : Binds K dWri ["_law_row_here"] []
  gWri : mg "_law_written" = some (.ref aWri)
  aSho : Addr
  dSho : FuncData
  FSho : Fun K "_law_shown_right" "_law_shown_right" sSho aSho dSho
  bSho : Binds K dSho ["_law_made", "_law_row_here"] []
  gSho : mg "_law_shown_right" = some (.ref aSho)
  aOth : Addr
  dOth : FuncData
  FOth : Fun K "_law_other" "_law_other" sOth aOth dOth
  bOth : Binds K dOth ["_law_source_here", "_law_row_here"] []
  gOth : mg "_law_other" = some (.ref aOth)
  aRight : Addr
  dRight : FuncData
  FRight : Fun K "_law_right" "_law_right" sRight aRight dRight
  bRight : Binds K dRight ["_law_source_here"] []
  gRight : mg "_law_right" = some (.ref aRight)
  aLaw : Addr
  dLaw : FuncData
  FLaw : Fun K "law" "law" sLaw aLaw dLaw
  bLaw : Binds K dLaw ["_law_cells"] []
  gLaw : mg "law" = some (.ref aLaw)
  aRd : Addr
  dRd : FuncData
  FRd : Fun K "read" "Ratio.read" sRd aRd dRd
  bRd : Binds K dRd ["cls", "text"] []
  pRd : Addr
  mc : Value
  rRd : ClX.CRead K C mc
  cRd : ClX.CMet K C mc "read" pRd aRd
end T07

/-! The end of a law row whose def is only known to keep its promise where no guard runs. -/
namespace SF
open PySem PySem.Spec PyProof.Rows L2
/-- the script's object as the abstract heap bears it: frozen, unless it is one of the module's own -/
def scriptH (K : PySem.W.Frag) (a : Addr) (vs : List Value) (ns : List Int) : Hp := fun b =>
  if b = a ∧ K.lookup a = none then some (.frz { cls := .type "list", data := .seq vs.toArray } (.lst (ns.map V.int))) else none
section
variable {P : Program} {w : World} {K : PySem.W.Frag} {a : Addr} {vs : List Value} {ns : List Int} {s₁ : Shared}
theorem scriptH_some {b : Addr} {u : HO} (e : scriptH K a vs ns b = some u) : b = a ∧ K.lookup a = none ∧ u = .frz { cls := .type "list", data := .seq vs.toArray } (.lst (ns.map V.int)) := by
  by_cases h : b = a ∧ K.lookup a = none
  · have z : some _ = some u := (if_pos h).symm.trans e
    exact ⟨h.1, h.2, (Option.some.inj z).symm⟩
  · have z : none = some u := (if_neg h).symm.trans e
    cases z
theorem scriptH_seq (KX : K.In s₁.heap) (ha : s₁.heap.get? a = some { cls := .type "list", data := .seq vs.toArray }) (hi : IntsAre vs ns) (hl : ns.length ≤ sizeLine) : SqL K (scriptH K a vs ns) a (ns.map V.int) := by
  cases hk : K.lookup a with
  | none => exact .inl (.inr ⟨_, if_pos ⟨rfl, hk⟩⟩)
  | some o =>
    have z := (KX a o hk).symm.trans ha
    cases z
    have hz : vs.toArray.size ≤ sizeLine := by rw [List.size_toArray, hi.length]; exact hl
    exact .inr ⟨_, vs.toArray, _, hk, rfl, rfl, rfl, hz, by rw [List.toList_toArray]; exact vals_ints hi⟩
theorem scriptH_ok (ha : s₁.heap.get? a = some { cls := .type "list", data := .seq vs.toArray }) (hi : IntsAre vs ns) (hl : ns.length ≤ sizeLine) : HOk P w (scriptH K a vs ns) s₁.heap := fun b u e => by
  obtain ⟨rfl, _, rfl⟩ := scriptH_some e
  exact ⟨ha, by rw [List.length_map]; exact hl, vs, _, vals_ints hi, ha⟩
/-- whatever the written part, a namespace or a dict bears stays in the base -/
theorem scriptH_base {b : Addr} {o : Obj} (e : s₁.heap.get? b = some o) (hn : b = a → K.lookup a ≠ none) : (hidT s₁.heap (scriptH K a vs ns)).get? b = some o := by
  refine hidT_get e ?_
  cases q : scriptH K a vs ns b with
  | none => rfl
  | some u =>
    obtain ⟨z, hk, _⟩ := scriptH_some q
    exact absurd hk (hn z)
theorem scriptH_ns {b : Addr} {m : Str → Option Value} (ha : s₁.heap.get? a = some { cls := .type "list", data := .seq vs.toArray }) (n : s₁.heap.Ns b m) : (hidT s₁.heap (scriptH K a vs ns)).Ns b m := by
  obtain ⟨o, es, ep, e, d, r⟩ := n
  refine ⟨o, es, ep, scriptH_base e (fun z => ?_), d, r⟩
  rw [z, ha] at e
  cases e
  cases d
theorem law_callG {mg mb : Str → Option Value} {k : Nat} {fa : Addr} {fd : FuncData} {x : Str} {sp : Sp}
    (KX : K.In s₁.heap) (hns : s₁.heap.Ns mainGlobals mg) (hb : s₁.heap.Ns builtinsNs mb) (hbb : ∀ x : Str, x ≠ "__name__" → mb x = bootBuiltins x) (hlim : s₁.heap.NoLimit) (hg : s₁.gens = #[])
    (ha : s₁.heap.get? a = some { cls := .type "list", data := .seq vs.toArray }) (hi : IntsAre vs ns) (hl : ns.length ≤ sizeLine) (hr : Room k callerA)
    (F : ∀ base : Heap, K.In base → base.Ns mainGlobals mg → FnG P w K mg base CX0 k fa fd [x] sp) (hbind : ∀ (s : Shared) (u : Value), BindsTo s fd ⟨[u], []⟩ [(x, u)])
    (hsp : ∀ H : Hp, SqL K H a (ns.map V.int) → sp [.ref a] H (fun v _ => v = .bl true) fun _ _ _ => False) :
    codeAny (model P w) callerA (.call (.ref fa) ⟨[.ref a], []⟩) (fun r s' => r = .ok (.ret (.bool true)) ∧ PySem.OldK s₁.heap s'.heap ∧ s'.os = s₁.os ∧ AllBare s'.gens) s₁ := by
  have kb : K.In (hidT s₁.heap (scriptH K a vs ns)) := fun b o e => scriptH_base (KX b o e) fun z n => by
    rw [← z, e] at n
    cases n
  have nb := scriptH_ns (K := K) (ns := ns) ha hns
  have lb : (hidT s₁.heap (scriptH K a vs ns)).NoLimit := by
    obtain ⟨mc, n1, n2⟩ := hlim
    exact ⟨mc, scriptH_ns ha n1, n2⟩
  have okH : HOk P w (scriptH K a vs ns) s₁.heap := scriptH_ok ha hi hl
  have noF : ∀ b, b ∈ frs [] → False := fun b hb => nomatch hb
  have e0 : Env0 P w K mg (hidT s₁.heap (scriptH K a vs ns)) callerA [] s₁ (scriptH K a vs ns) :=
    { frames := rfl, mod := ⟨kb, nb, ⟨mb, scriptH_ns ha hb, hbb⟩, lb⟩, bs := fun b o e => of_hidT e, bsz := Nat.le_of_eq (hidT_size _ _), funs := trivial, frf := fun b z => (noF b z).elim, hok := okH, bare := .of_eq hg }
  have run := (F _ kb nb).run callerA [] s₁ _ ⟨[.ref a], []⟩ [.ref a] [.ref a] _ _ rfl hr e0 (hbind s₁ (.ref a)) (.cons rfl .nil) (hsp _ (scriptH_seq KX ha hi hl))
  refine codeAny_mono run fun r s' q => ?_
  rcases r with e | fl
  · exact False.elim q
  cases fl <;> first | exact False.elim q | skip
  obtain ⟨v, H', os, bare, un, ok', rv, qv⟩ := q
  have ev : v = .bl true := qv
  rw [ev] at rv
  cases rv
  refine ⟨rfl, .of_keep fun b o e => ?_, os, bare⟩
  cases z : scriptH K a vs ns b with
  | none => exact un.keep b o e z (noF b) (by simp)
  | some u =>
    obtain ⟨rfl, _, rfl⟩ := scriptH_some z
    have after := (ok' b _ (un.frzs b _ _ z)).1
    rw [e] at ha
    rw [ha]
    exact after
end
/-- the goal that the head leaves -/
theorem walkG {l : PySem.W.OpenLaw} {n k : Nat} {q : Program} {loose : List Str} {XP : (Str → Option Value) → Heap → Prop} {YP : World → Heap → Prop} {d : DefRec} {K : Params → PySem.W.Frag} {sp : PySem.W.Frag → Sp} {x : Str}
    (hn : l.most = some n) (hn2 : n ≤ sizeLine) (hdf : d.params.defaults = []) (hr : Room k callerA) (hY : ∀ (w : World) (h : Heap), YP w h → (K w.params).In h)
    (F : ∀ (w : World) (mg : Str → Option Value) (fa : Addr) (h : Heap), (K w.params).In h → h.Ns mainGlobals mg → mg d.name = some (.ref fa) →
      ∃ fd : FuncData, (∀ (s : Shared) (u : Value), BindsTo s fd ⟨[u], []⟩ [(x, u)]) ∧ ∀ base : Heap, (K w.params).In base → base.Ns mainGlobals mg → FnG l.prog w (K w.params) mg base CX0 k fa fd [x] (sp (K w.params)))
    (hsp : ∀ (K : PySem.W.Frag) (H : Hp) (a : Addr) (ns : List Int), ns.length ≤ n → SqL K H a (ns.map V.int) → sp K [.ref a] H (fun v _ => v = .bl true) fun _ _ _ => False) :
    PySem.W.WalkO q loose XP YP l.row.toRowW d [] (fun f vs => PySem.call f vs) := by
  refine Att.attach_call hn hdf fun w s₀ s₁ mg mb fa o pm cd doc a vs ns G Y ho hd hcd hmg hobj hints hlen hg => ?_
  obtain ⟨fd, hb, hF⟩ := F w mg fa _ (hY w _ Y) G.T.g hmg
  exact law_callG (hY w _ Y) G.T.g G.T.b G.T.builtins G.T.nolimit hg hobj hints (Nat.le_trans hlen hn2) hr hF hb fun H hS => hsp _ H a ns hlen hS
end SF

/-! The end of a law row whose defs make lambdas: the script and the empty tables of code objects are tracked. -/
namespace SFY
open PySem PySem.Spec PyProof.Rows L2 LamX SF
/-- the script's object and the tables ts, as the abstract heap bears them -/
def startH (K : PySem.W.Frag) (a : Addr) (vs : List Value) (ns : List Int) (ts : List Addr) : Hp := fun b => if b ∈ ts then some (.tbl #[]) else scriptH K a vs ns b
section
variable {P : Program} {w : World} {K : PySem.W.Frag} {a : Addr} {vs : List Value} {ns : List Int} {s₁ : Shared} {ts : List Addr}
theorem startH_in {b : Addr} (h : b ∈ ts) : startH K a vs ns ts b = some (.tbl #[]) := if_pos h
theorem startH_out {b : Addr} (h : b ∉ ts) : startH K a vs ns ts b = scriptH K a vs ns b := if_neg h
/-- whatever is neither the tracked script nor a table stands in the base -/
theorem startH_base {b : Addr} {o : Obj} (e : s₁.heap.get? b = some o) (ht : b ∉ ts) (hn : b = a → K.lookup a ≠ none) : (hidT s₁.heap (startH K a vs ns ts)).get? b = some o := by
  refine hidT_get e ?_
  rw [startH_out ht]
  cases q : scriptH K a vs ns b with
  | none => rfl
  | some u =>
    obtain ⟨z, hk, _⟩ := scriptH_some q
    exact absurd hk (hn z)
theorem law_callTG {mg mb : Str → Option Value} {k : Nat} {fa : Addr} {cs : List (Addr × Addr)} {fd : FuncData} {x : Str} {sp : Sp}
    (KX : K.In s₁.heap) (hns : s₁.heap.Ns mainGlobals mg) (hb : s₁.heap.Ns builtinsNs mb) (hbb : ∀ x : Str, x ≠ "__name__" → mb x = bootBuiltins x) (hlim : s₁.heap.NoLimit) (hg : s₁.gens = #[])
    (hT : ∀ p ∈ cs, s₁.heap.get? p.2 = some (PySem.W.tabObj #[])) (nT : ∀ p ∈ cs, K.lookup p.2 = none) (hC : ∀ p ∈ cs, PySem.W.codeHdIn K p.1 p.2 = true)
    (hbm : ∃ (bm : Addr) (ob : Obj), mg "__builtins__" = some (.ref bm) ∧ bm ≠ builtinsNs ∧ s₁.heap.get? bm = some ob ∧ ob.cls = .type "module" ∧ ob.dict = some builtinsNs ∧ ob.data = .plain)
    (ha : s₁.heap.get? a = some { cls := .type "list", data := .seq vs.toArray }) (hi : IntsAre vs ns) (hl : ns.length ≤ sizeLine) (hr : Room k callerA)
    (F : ∀ base : Heap, K.In base → base.Ns mainGlobals mg → (∀ p ∈ cs, TabB base mg p.1 p.2) → FnG P w K mg base CX0 k fa fd [x] sp) (hbind : ∀ (s : Shared) (u : Value), BindsTo s fd ⟨[u], []⟩ [(x, u)])
    (hsp : ∀ H : Hp, (∀ p ∈ cs, H p.2 = some (.tbl #[])) → SqL K H a (ns.map V.int) → sp [.ref a] H (fun v _ => v = .bl true) fun _ _ _ => False) :
    codeAny (model P w) callerA (.call (.ref fa) ⟨[.ref a], []⟩) (fun r s' => r = .ok (.ret (.bool true)) ∧ PySem.OldK s₁.heap s'.heap ∧ s'.os = s₁.os ∧ AllBare s'.gens) s₁ := by
  generalize ets : cs.map (·.2) = ts
  have tab : ∀ b, b ∈ ts → ∃ p ∈ cs, p.2 = b := fun b hb => by
    rw [← ets] at hb
    exact List.mem_map.mp hb
  have tabG : ∀ b, b ∈ ts → s₁.heap.get? b = some (PySem.W.tabObj #[]) := fun b hb => let ⟨p, hp, e⟩ := tab b hb; e ▸ hT p hp
  have tabIn : ∀ p ∈ cs, p.2 ∈ ts := fun p hp => by rw [← ets]; exact List.mem_map.mpr ⟨p, hp, rfl⟩
  have notT : ∀ {b : Addr} {o : Obj}, s₁.heap.get? b = some o → o.data ≠ (PySem.W.tabObj #[]).data → b ∉ ts := fun {b o} e d hb => by
    rw [tabG b hb] at e
    cases e
    exact d rfl
  have aT : a ∉ ts := notT ha (by intro z; cases z)
  have kT : ∀ {b : Addr} {o : Obj}, K.lookup b = some o → b ∉ ts := fun {b o} e hb => by
    obtain ⟨p, hp, rfl⟩ := tab b hb
    rw [nT p hp] at e
    cases e
  have kb : K.In (hidT s₁.heap (startH K a vs ns ts)) := fun b o e => startH_base (KX b o e) (kT e) fun z n => by
    rw [← z, e] at n
    cases n
  have nsK : ∀ {b : Addr} {m : Str → Option Value}, s₁.heap.Ns b m → (hidT s₁.heap (startH K a vs ns ts)).Ns b m := fun {b m} ⟨o, es, ep, e, d, r⟩ =>
    ⟨o, es, ep, startH_base e (notT e (by rw [d]; intro z; cases z)) (fun z => by
      rw [z, ha] at e
      cases e
      cases d), d, r⟩
  have nb := nsK hns
  have lb : (hidT s₁.heap (startH K a vs ns ts)).NoLimit := let ⟨mc, n1, n2⟩ := hlim; ⟨mc, nsK n1, n2⟩
  have okH : HOk P w (startH K a vs ns ts) s₁.heap := fun b u e => by
    by_cases hb : b ∈ ts
    · rw [startH_in hb] at e
      cases e
      exact tabG b hb
    · rw [startH_out hb] at e
      refine (scriptH_ok (P := P) (w := w) (K := K) ha hi hl b u e).stay (fun c v hc r => r) (fun c r => ?_) fun c xs r => ?_
      · obtain ⟨_, _, z⟩ := scriptH_some r
        cases z
      · obtain ⟨_, _, z⟩ := scriptH_some r
        cases z
  have noF : ∀ b, b ∈ frs [] → False := fun b hb => nomatch hb
  have e0 : Env0 P w K mg (hidT s₁.heap (startH K a vs ns ts)) callerA [] s₁ (startH K a vs ns ts) :=
    { frames := rfl, mod := ⟨kb, nb, ⟨mb, nsK hb, hbb⟩, lb⟩, bs := fun b o e => of_hidT e, bsz := Nat.le_of_eq (hidT_size _ _), funs := trivial, frf := fun b z => (noF b z).elim, hok := okH, bare := .of_eq hg }
  have TB : ∀ p ∈ cs, TabB (hidT s₁.heap (startH K a vs ns ts)) mg p.1 p.2 := fun p hp => by
    have atP := tabG p.2 (tabIn p hp)
    refine ⟨PySem.W.codeHd_of_K kb (hC p hp), ?_, fun z => ?_⟩
    · obtain ⟨bm, ob, b1, b2, b3, b4, b5, b6⟩ := hbm
      refine ⟨bm, ob, b1, b2, fun z => ?_, fun z => ?_, startH_base b3 (notT b3 (by rw [b6]; intro z; cases z)) (fun z => ?_), b4, b5, b6⟩
      · obtain ⟨o, es, ep, e, d, _⟩ := hns
        rw [z, e] at b3
        cases b3
        rw [b6] at d
        cases d
      · rw [z, atP] at b3
        cases b3
        cases b6
      · rw [z, ha] at b3
        cases b3
        cases b6
    · obtain ⟨o, es, ep, e, d, _⟩ := hns
      rw [z, atP] at e
      cases e
      cases d
  have hS : SqL K (startH K a vs ns ts) a (ns.map V.int) := by
    rcases scriptH_seq KX ha hi hl with (h | ⟨o, h⟩) | h
    · exact .inl (.inl (by rw [startH_out aT]; exact h))
    · exact .inl (.inr ⟨o, by rw [startH_out aT]; exact h⟩)
    · exact .inr h
  have run := (F _ kb nb TB).run callerA [] s₁ _ ⟨[.ref a], []⟩ [.ref a] [.ref a] _ _ rfl hr e0 (hbind s₁ (.ref a)) (.cons rfl .nil) (hsp _ (fun p hp => startH_in (tabIn p hp)) hS)
  refine codeAny_mono run fun r s' q => ?_
  rcases r with e | fl
  · exact False.elim q
  cases fl <;> first | exact False.elim q | skip
  obtain ⟨v, H', os, bare, un, ok', rv, qv⟩ := q
  have ev : v = .bl true := qv
  rw [ev] at rv
  cases rv
  have still : ∀ b o, s₁.heap.get? b = some o → b ∉ ts → s'.heap.get? b = some o := fun b o e hb => by
    cases z : startH K a vs ns ts b with
    | none => exact un.keep b o e z (noF b) (by simp)
    | some u =>
      have z2 := z
      rw [startH_out hb] at z2
      obtain ⟨rfl, _, rfl⟩ := scriptH_some z2
      have after := (ok' b _ (un.frzs b _ _ z)).1
      rw [e] at ha
      rw [ha]
      exact after
  have grown : ∀ b, b ∈ ts → ∃ more : Array Value, s'.heap.get? b = some (PySem.W.tabObj more) := fun b hb => by
    obtain ⟨more, z⟩ := un.tbls b #[] (startH_in hb)
    exact ⟨_, ok' b _ z⟩
  refine ⟨rfl, ⟨fun b o e => ?_, fun b o e => ?_⟩, os, bare⟩
  · by_cases hb : b ∈ ts
    · obtain ⟨p, hp, rfl⟩ := tab b hb
      obtain ⟨more, hm⟩ := grown _ hb
      have atP := hT p hp
      rw [atP] at e
      cases e
      exact .inr (.inl ⟨((PySem.W.codeHd_of_K KX (hC p hp)).tab atP).isCodeTable, rfl, #[], more, rfl, by rw [Array.empty_append]; exact hm⟩)
    · exact .inl (still b o e hb)
  · by_cases hb : b ∈ ts
    · obtain ⟨more, hm⟩ := grown b hb
      exact ⟨_, hm⟩
    · exact ⟨o, still b o e hb⟩
end
/-- what is known of the law's def at the head's heap -/
def LawAtG (l : PySem.W.OpenLaw) (w : World) (K : PySem.W.Frag) (k n : Nat) (x : Str) (mg : Str → Option Value) (fa : Addr) (ts : List Addr) : Prop :=
  ∃ (fd : FuncData) (cs : List (Addr × Addr)) (sp : Sp), (∀ p ∈ cs, p.2 ∈ ts ∧ K.lookup p.2 = none ∧ PySem.W.codeHdIn K p.1 p.2 = true) ∧ (∀ (s : Shared) (u : Value), BindsTo s fd ⟨[u], []⟩ [(x, u)]) ∧
    (∀ (H : Hp) (a : Addr) (ns : List Int), ns.length ≤ n → (∀ p ∈ cs, H p.2 = some (.tbl #[])) → SqL K H a (ns.map V.int) → sp [.ref a] H (fun v _ => v = .bl true) fun _ _ _ => False) ∧
    ∀ base : Heap, K.In base → base.Ns mainGlobals mg → (∀ p ∈ cs, TabB base mg p.1 p.2) → FnG l.prog w K mg base CX0 k fa fd [x] sp
/-- the goal that the head leaves -/
theorem walkGT {l : PySem.W.OpenLaw} {n k : Nat} {q : Program} {loose : List Str} {XP : (Str → Option Value) → Heap → Prop} {YP : World → Heap → Prop} {d : DefRec} {K : Params → PySem.W.Frag} {x : Str} {ts : List Addr}
    (hn : l.most = some n) (hn2 : n ≤ sizeLine) (hdf : d.params.defaults = []) (hr : Room k callerA) (hY : ∀ (w : World) (h : Heap), YP w h → (K w.params).In h ∧ ∀ P ∈ ts, h.get? P = some (PySem.W.tabObj #[]))
    (F : ∀ (w : World) (mg : Str → Option Value) (fa : Addr) (h : Heap), (K w.params).In h → h.Ns mainGlobals mg → mg d.name = some (.ref fa) → LawAtG l w (K w.params) k n x mg fa ts) :
    PySem.W.WalkO q loose XP YP l.row.toRowW d [] (fun f vs => PySem.call f vs) := by
  refine Att.attach_call hn hdf fun w s₀ s₁ mg mb fa o pm cd doc a vs ns G Y ho hd hcd hmg hobj hints hlen hg => ?_
  obtain ⟨KX, hT⟩ := hY w _ Y
  obtain ⟨fd, cs, sp, hcs, hb, hsp, hF⟩ := F w mg fa _ KX G.T.g hmg
  exact law_callTG KX G.T.g G.T.b G.T.builtins G.T.nolimit hg (fun p hp => hT _ (hcs p hp).1) (fun p hp => (hcs p hp).2.1) (fun p hp => (hcs p hp).2.2) G.T.bmain hobj hints (Nat.le_trans hlen hn2) hr hF hb fun H hH hS => hsp H a ns hlen hH hS
/-- the table that the code object at c names -/
def tabOf (K : PySem.W.Frag) (c : Addr) : Addr := match K.lookup c with
  | some ⟨_, _, .fields vs, _⟩ => (match (vs[11]? : Option Value) with
    | some (.ref P) => P
    | _ => 0)
  | _ => 0
def tabsB (K : PySem.W.Frag) (ts : List Addr) (cs : List Addr) : Bool := cs.all fun c => ts.contains (tabOf K c) && ((K.lookup (tabOf K c)).isNone && PySem.W.codeHdIn K c (tabOf K c))
theorem tabsB_ok {K : PySem.W.Frag} {ts cs : List Addr} (h : tabsB K ts cs = true) : ∀ p ∈ cs.map fun c => (c, tabOf K c), p.2 ∈ ts ∧ K.lookup p.2 = none ∧ PySem.W.codeHdIn K p.1 p.2 = true := fun p hp => by
  obtain ⟨c, hc, rfl⟩ := List.mem_map.mp hp
  obtain ⟨h1, h2⟩ := Bool.and_eq_true_iff.mp (List.all_eq_true.mp h c hc)
  obtain ⟨h2, h3⟩ := Bool.and_eq_true_iff.mp h2
  exact ⟨List.contains_iff_mem.mp h1, Option.isNone_iff_eq_none.mp h2, h3⟩
end SFY

/-! The head by one run of imports and top: defs wherever they stand, one Bool over the written part, the empty tables of code objects. -/
namespace SJ
open PySem PySem.Spec PyProof.Rows L2 SF LamX
structure DJ where
  ad : PySem.W.Frag → Addr
  nm : Str
  ql : Str
  pr : Arguments
  bd : List Stmt
  sc : Scope
  df : List He.Dv := []
def seenAt (K : PySem.W.Frag) (a : Addr) : He.FnW := match K.lookup a with
  | some ⟨_, _, .func u, _⟩ => some (u.name, u.qualname, u.params, u.body, u.scope, u.globals, u.closure, u.builtins)
  | _ => none
def DJ.due (d : DJ) : He.FnW := some (d.nm, d.ql, d.pr, .stmts d.bd, d.sc, mainGlobals, [], builtinsNs)
def DJ.good (K : PySem.W.Frag) (d : DJ) : Bool := PySem.W.keepIn K (.ref (d.ad K)) && (match K.lookup (d.ad K) with
  | some ⟨_, _, .func u, _⟩ => PySem.W.codeIn K u.code d.ql && He.dflB K u.defaults (d.df.map (He.Dv.v K))
  | _ => false)
theorem DJ.fun_ {K : PySem.W.Frag} {d : DJ} (e : seenAt K (d.ad K) = d.due) (c : d.good K = true) : ∃ fd, FunD K d.nm d.ql d.pr d.bd d.sc (d.df.map (He.Dv.v K)) [] (d.ad K) fd := by
  obtain ⟨kp, c2⟩ := Bool.and_eq_true_iff.mp c
  unfold seenAt at e
  cases q : K.lookup (d.ad K) with
  | none => rw [q] at c2; cases c2
  | some o =>
    obtain ⟨oc, od, dt, osl⟩ := o
    rw [q] at c2 e
    cases dt with
    | func u =>
      obtain ⟨u1, u2, u3, u4, u5, u6, u7, u8, u9, u10, u11, u12, u13, u14, u15⟩ := u
      have e2 : (some (u1, u2, u3, u4, u5, u6, u7, u15) : He.FnW) = some (d.nm, d.ql, d.pr, .stmts d.bd, d.sc, mainGlobals, [], builtinsNs) := e
      simp only [Option.some.injEq, Prod.mk.injEq] at e2
      obtain ⟨h1, h2, h3, h4, h5, h6, h7, h8⟩ := e2
      subst h1 h2 h3 h4 h5 h6 h7 h8
      have c3 : (PySem.W.codeIn K u13 d.ql && He.dflB K u8 (d.df.map (He.Dv.v K))) = true := c2
      obtain ⟨k1, k2⟩ := Bool.and_eq_true_iff.mp c3
      exact ⟨_, ⟨oc, od, u8, u9, u10, u11, u12, u13, u14, osl, rfl, q, k1, He.dflB_ok k2, .inl rfl⟩, kp⟩
    | _ => cases c2
theorem fun_of {K : PySem.W.Frag} {x qual : Str} {st : Stmt} {f : Addr} {fd : FuncData} (F : FunD K x qual (defArgs st) (defBody st) (defScope st) [] [] f fd) : Fun K x qual st f fd := by
  obtain ⟨oc, od, dV, kV, doc, pm, an, cdv, ct, osl, rfl, lk, hcd, hD, hK⟩ := F.ex
  rcases hD with ⟨_, rfl⟩ | ⟨e, _⟩
  · exact ⟨⟨oc, od, kV, doc, pm, an, cdv, ct, osl, rfl, lk, hcd⟩, F.kp⟩
  · exact absurd rfl e
/-- the code object of the function at a; its table -/
def codeAt (K : PySem.W.Frag) (a : Addr) : Addr := match K.lookup a with
  | some ⟨_, _, .func u, _⟩ => (match u.code with
    | .ref c => c
    | _ => 0)
  | _ => 0
def tabAt (K : PySem.W.Frag) (a : Addr) : Addr := SFY.tabOf K (codeAt K a)
/-- what an object names; of its bases only those above it -/
def refsJ (o : Obj) : List Addr := (match o.data with
  | .cls u => u.ns :: (u.mro.drop 1).flatMap He.refV
  | .func u => He.refV u.code ++ He.refV u.defaults
  | .dict es _ => es.toList.flatMap fun e => He.refV e.val
  | .seq its _ => its.toList.flatMap He.refV
  | .fields vs => vs.toList.flatMap He.refV
  | _ => [])
def pickJ (g : Addr → Option Obj) : List Addr → List (Addr × Obj)
  | [] => []
  | a :: r => match g a with
    | some o => (a, o) :: pickJ g r
    | none => pickJ g r
theorem pickJ_ok {g : Addr → Option Obj} : ∀ {as : List Addr}, ∀ p ∈ pickJ g as, g p.1 = some p.2
  | [], p, h => nomatch h
  | a :: r, p, h => by
    unfold pickJ at h
    cases e : g a with
    | none => rw [e] at h; exact pickJ_ok p h
    | some o =>
      rw [e] at h
      rcases List.mem_cons.mp h with rfl | h
      · exact e
      · exact pickJ_ok p h
def levJ (g : Addr → Option Obj) : Nat → List Addr → List (Addr × Obj)
  | 0, _ => []
  | n + 1, fr => pickJ g fr ++ levJ g n ((pickJ g fr).flatMap fun p => refsJ p.2)
theorem levJ_ok {g : Addr → Option Obj} : ∀ {n : Nat} {fr : List Addr}, ∀ p ∈ levJ g n fr, g p.1 = some p.2
  | 0, _, p, h => nomatch h
  | n + 1, fr, p, h => by
    unfold levJ at h
    rcases List.mem_append.mp h with h | h
    · exact pickJ_ok p h
    · exact levJ_ok p h
theorem in_of {K : PySem.W.Frag} {h : Heap} (e : ∀ p ∈ K, h.get? p.1 = some p.2) : K.In h := fun a o l => by
  have z : ∀ K : PySem.W.Frag, K.lookup a = some o → (a, o) ∈ K := fun K => by
    induction K with
    | nil => intro q; cases q
    | cons p r ih =>
      intro q
      obtain ⟨b, u⟩ := p
      rw [List.lookup_cons] at q
      cases hb : a == b with
      | true =>
        rw [hb] at q
        have e1 : a = b := beq_iff_eq.mp hb
        have e2 : u = o := Option.some.inj q
        rw [e1, e2]
        exact List.mem_cons_self
      | false =>
        rw [hb] at q
        exact List.mem_cons_of_mem _ (ih q)
  exact e (a, o) (z K l)
/-- the list laid out, before it is looked at -/
def frL {β : Type} : List (Addr × Obj) → (List (Addr × Obj) → β) → β
  | [], k => k []
  | (a, ⟨c, d, t, s⟩) :: r, k => HeadRun.frNat a fun a => frL r fun r => k ((a, ⟨c, d, t, s⟩) :: r)
theorem frL_eq {β : Type} : ∀ (l : List (Addr × Obj)) (k : List (Addr × Obj) → β), frL l k = k l
  | [], k => rfl
  | (a, ⟨c, d, t, s⟩) :: r, k => by
    unfold frL
    rw [HeadRun.frNat_eq, frL_eq r]
def frN {β : Type} : List Nat → (List Nat → β) → β
  | [], k => k []
  | a :: r, k => HeadRun.frNat a fun a => frN r fun r => k (a :: r)
theorem frN_eq {β : Type} : ∀ (l : List Nat) (k : List Nat → β), frN l k = k l
  | [], k => rfl
  | a :: r, k => by
    unfold frN
    rw [HeadRun.frNat_eq, frN_eq r]
/-- the part without the tables -/
def cutJ {β : Type} (lam : List (PySem.W.Frag → Addr)) (K : PySem.W.Frag) (k : PySem.W.Frag → β) : β := match lam with
  | [] => k K
  | f :: fs => frN ((f :: fs).map fun f => tabAt K (f K)) fun ts => frL (K.filter fun p => !ts.contains p.1) k
def partJ {β : Type} (n : Nat) (lam : List (PySem.W.Frag → Addr)) (g : Addr → Option Obj) (k : PySem.W.Frag → β) : β := frL (levJ g n [mainGlobals, cStatics]) fun K => cutJ lam K k
theorem partJ_is {n : Nat} {lam : List (PySem.W.Frag → Addr)} {g : Addr → Option Obj} : ∃ K : PySem.W.Frag, (∀ p ∈ K, g p.1 = some p.2) ∧ ∀ {β : Type} (k : PySem.W.Frag → β), partJ n lam g k = k K := by
  unfold partJ cutJ
  cases lam with
  | nil => exact ⟨_, fun p h => levJ_ok p h, fun k => by rw [frL_eq]⟩
  | cons f fs => exact ⟨_, fun p h => levJ_ok p (List.mem_filter.mp h).1, fun k => by
      rw [frL_eq]
      show frN _ _ = _
      rw [frN_eq, frL_eq]⟩
abbrev AlJ : Type := (Bool × List He.FnW) × List (Option Obj)
section
variable (n : Nat) (fn : List DJ) (ex : PySem.W.Frag → Bool) (lam : List (PySem.W.Frag → Addr))
def obsK (K : PySem.W.Frag) : Bool × List He.FnW := ((fn.all fun d => d.good K) && ex K, fn.map fun d => seenAt K (d.ad K))
def obsJ (g : Addr → Option Obj) : AlJ := partJ n lam g fun K => (obsK fn ex K, lam.map fun f => g (tabAt K (f K)))
def valJ : AlJ := ((true, fn.map DJ.due), lam.map fun _ => some (PySem.W.tabObj #[]))
def SaysJ (K : PySem.W.Frag) : Prop := obsK fn ex K = (true, fn.map DJ.due)
def hookJ : PySem.W.Hook where
  α := AlJ
  obs := fun s => obsJ n fn ex lam s.heap.get?
  val := fun _ => valJ fn lam
  says := fun _ h => ∃ K : PySem.W.Frag, K.In h ∧ SaysJ fn ex K ∧ ∀ f ∈ lam, h.get? (tabAt K (f K)) = some (PySem.W.tabObj #[])
  of := fun _ s e => by
    obtain ⟨K, hK, hk⟩ := partJ_is (n := n) (lam := lam) (g := s.heap.get?)
    have e : obsJ n fn ex lam s.heap.get? = valJ fn lam := e
    unfold obsJ at e
    rw [hk] at e
    exact ⟨K, in_of hK, congrArg Prod.fst e, List.map_inj_left.mp (congrArg Prod.snd e)⟩
  keeps := fun _ _ _ ⟨K, hK, c, t⟩ k => ⟨K, PySem.W.Frag.In.keeps hK k, c, fun f hf => k _ _ (t f hf)⟩
end
section
variable {n : Nat} {fn : List DJ} {ex : PySem.W.Frag → Bool} {lam : List (PySem.W.Frag → Addr)} {K : PySem.W.Frag}
theorem obsJ_eq (s : PySem.W.SharedT) : obsJ n fn ex lam (HeadRun.getT s) = (hookJ n fn ex lam).obs s.abs := by
  have e : HeadRun.getT s = s.abs.heap.get? := funext (HeadRun.getT_eq s)
  rw [e] <;> rfl
theorem SaysJ.facts (c : SaysJ fn ex K) : ex K = true := (Bool.and_eq_true_iff.mp (congrArg Prod.fst c)).2
theorem SaysJ.def_ (c : SaysJ fn ex K) (i : Nat) {d : DJ} (h : fn[i]? = some d := by rfl) : ∃ fd, FunD K d.nm d.ql d.pr d.bd d.sc (d.df.map (He.Dv.v K)) [] (d.ad K) fd := by
  have e : fn.map (fun d => seenAt K (d.ad K)) = fn.map DJ.due := congrArg Prod.snd c
  have e2 : (fn.map fun d => seenAt K (d.ad K))[i]? = (fn.map DJ.due)[i]? := by rw [e]
  rw [List.getElem?_map, List.getElem?_map, h] at e2
  exact DJ.fun_ (Option.some.inj e2) (List.all_eq_true.mp (Bool.and_eq_true_iff.mp (congrArg Prod.fst c)).1 d (List.mem_of_getElem? h))
end
/-- the end: the law's def over a written part that is told by the hook -/
theorem walkJ {l : PySem.W.OpenLaw} {n k : Nat} {q : Program} {loose : List Str} {XP : (Str → Option Value) → Heap → Prop} {YP : World → Heap → Prop} {d : DefRec} {x : Str}
    (hn : l.most = some n) (hn2 : n ≤ sizeLine) (hdf : d.params.defaults = []) (hr : Room k callerA)
    (F : ∀ (w : World) (mg : Str → Option Value) (fa : Addr) (h : Heap), YP w h → h.Ns mainGlobals mg → mg d.name = some (.ref fa) → ∃ (K : PySem.W.Frag) (ts : List Addr), K.In h ∧ (∀ P ∈ ts, h.get? P = some (PySem.W.tabObj #[])) ∧ SFY.LawAtG l w K k n x mg fa ts) :
    PySem.W.WalkO q loose XP YP l.row.toRowW d [] (fun f vs => PySem.call f vs) := by
  refine Att.attach_call hn hdf fun w s₀ s₁ mg mb fa o pm cd doc a vs ns G Y ho hd hcd hmg hobj hints hlen hg => ?_
  obtain ⟨K, ts, KX, hT, fd, cs, sp, hcs, hb, hsp, hF⟩ := F w mg fa _ Y G.T.g hmg
  exact SFY.law_callTG KX G.T.g G.T.b G.T.builtins G.T.nolimit hg (fun p hp => hT _ (hcs p hp).1) (fun p hp => (hcs p hp).2.1) (fun p hp => (hcs p hp).2.2) G.T.bmain hobj hints (Nat.le_trans hlen hn2) hr hF hb fun H hH hS => hsp H a ns hlen hH hS
/-- the facts of a list of truth values, by their places -/
theorem nthB {bs : List Bool} (h : bs.all id = true) (i : Nat) {b : Bool} (e : bs[i]? = some b := by rfl) : b = true := List.all_eq_true.mp h b (List.mem_of_getElem? e)
theorem decB {p : Prop} [Decidable p] (h : decide p = true) : p := of_decide_eq_true h
/-- the first value that an instance's slots, as a property's or a classmethod's, name -/
def recF (K : PySem.W.Frag) (p : Addr) (t : String) : Addr := match PySem.W.recIn K p t with
  | some (.ref f :: _) => f
  | _ => 0
def recR (K : PySem.W.Frag) (p : Addr) (t : String) : List Value := match PySem.W.recIn K p t with
  | some (_ :: r) => r
  | _ => []
end SJ
namespace SJ
open PySem PySem.Spec PyProof.Rows L2 SF LamX
def refCode (K : PySem.W.Frag) (a : Addr) : Bool := match K.lookup a with
  | some ⟨_, _, .func u, _⟩ => (match u.code with
    | .ref _ => true
    | _ => false)
  | _ => false
theorem code_of {K : PySem.W.Frag} {x qual : Str} {st : Stmt} {f : Addr} {fd : FuncData} (F : Fun K x qual st f fd) (h : refCode K f = true) : fd.code = .ref (codeAt K f) := by
  obtain ⟨oc, od, kV, doc, pm, an, cdv, ct, osl, rfl, lk, hcd⟩ := F.ex
  unfold refCode at h
  unfold codeAt
  rw [lk] at h ⊢
  cases cdv <;> first | rfl | cases h
def mroB (K : PySem.W.Frag) (C : Addr) : Bool := match PySem.W.clsIn K C with
  | some cd => decide (cd.mro = [.ref C, .type "object"])
  | none => false
theorem mroB_ok {K : PySem.W.Frag} {C : Addr} (h : mroB K C = true) : ∃ cd, PySem.W.clsIn K C = some cd ∧ cd.mro = [.ref C, .type "object"] := by
  unfold mroB at h
  cases e : PySem.W.clsIn K C with
  | none => rw [e] at h; cases h
  | some cd => rw [e] at h; exact ⟨cd, rfl, of_decide_eq_true h⟩
/-- the object behind a class's classmethod -/
def clsP (K : PySem.W.Frag) (C : Addr) (x : Str) : Addr := match PySem.W.findCls K (.ref C) (.type "type") x with
  | some (.get _ (.ref p) _ _) => p
  | _ => 0
def clsB (K : PySem.W.Frag) (C : Addr) (x : Str) : Bool := match PySem.W.findCls K (.ref C) (.type "type") x with
  | some (.get g (.ref _) o t) => decide (g = .builtin "classmethod.__get__") && (decide (o = .none) && decide (t = .ref C))
  | _ => false
theorem clsB_ok {K : PySem.W.Frag} {C : Addr} {x : Str} (h : clsB K C x = true) : PySem.W.findCls K (.ref C) (.type "type") x = some (.get (.builtin "classmethod.__get__") (.ref (clsP K C x)) .none (.ref C)) := by
  unfold clsB at h
  unfold clsP
  cases e : PySem.W.findCls K (.ref C) (.type "type") x with
  | none => rw [e] at h; cases h
  | some r =>
    rw [e] at h
    cases r with
    | val v => cases h
    | get g a o t =>
      cases a with
      | ref p =>
        obtain ⟨h1, h⟩ := Bool.and_eq_true_iff.mp h
        obtain ⟨h2, h3⟩ := Bool.and_eq_true_iff.mp h
        rw [of_decide_eq_true h1, of_decide_eq_true h2, of_decide_eq_true h3]
      | _ => cases h
def isInt (K : PySem.W.Frag) (x : Str) (i : Int) : Bool := match PySem.W.nsIn K mainGlobals x with
  | some (some (.int j _)) => decide (j = i)
  | _ => false
theorem isInt_ok {K : PySem.W.Frag} {h : Heap} {mg : Str → Option Value} (X : K.In h) (G : h.Ns mainGlobals mg) {x : Str} {i : Int} (c : isInt K x i = true) : ∃ t, mg x = some (.int i t) := He.int_ok X G c
end SJ
namespace SJ
theorem map3 {α β γ δ : Type} {o : Option α} {f : α → β} {g : α → γ} {h : α → δ} {a : β} {b : γ} {c : δ} (e1 : o.map f = some a) (e2 : o.map g = some b) (e3 : o.map h = some c) : o.map (fun x => (f x, g x, h x)) = some (a, b, c) := by
  cases o with
  | none => cases e1
  | some x =>
    cases e1
    cases e2
    cases e3
    rfl
end SJ

/-! Texts of series: shown, split, quoted. -/
namespace SK
open PySem PySem.Spec PyProof.Rows L2 SF SQ TL
open Builtin Builtin.Str
/-- signs that are shown as they are: between the space and the tilde, no quote, no backslash -/
def plainC (c : Nat) : Bool := decide (32 ≤ c) && decide (c < 127) && !decide (c = 39) && !decide (c = 92) && !decide (c = 34)
theorem printable_ascii : ∀ c : Nat, c < 127 → 32 ≤ c → Unicode.isPrintable c = true := by decide +kernel
theorem reprChar_plain {c : Nat} (h : plainC c = true) : reprChar 39 c = [c] := by
  simp only [plainC, Bool.and_eq_true, decide_eq_true_eq, Bool.not_eq_true', decide_eq_false_iff_not] at h
  obtain ⟨⟨⟨⟨h1, h2⟩, h3⟩, h4⟩, h5⟩ := h
  unfold reprChar
  have hp := printable_ascii c h2 h1
  have e1 : (c == 39 || c == 92) = false := by simp [h3, h4]
  have e2 : (c == 10) = false := by simp; omega
  have e3 : (c == 13) = false := by simp; omega
  have e4 : (c == 9) = false := by simp; omega
  simp [e1, e2, e3, e4, hp]
theorem fold_plain : ∀ (l : List Nat) (acc : Array Nat), (∀ c ∈ l, plainC c = true) → (l.foldl (fun out c => out ++ (reprChar 39 c).toArray) acc).toList = acc.toList ++ l
  | [], acc, _ => by simp
  | c :: r, acc, h => by
    rw [List.foldl_cons, fold_plain r _ fun d hd => h d (List.mem_cons_of_mem _ hd), reprChar_plain (h c List.mem_cons_self)]
    simp
theorem reprText_plain {x : Str} (h : ∀ c ∈ tl x, plainC c = true) : reprText x = (("'" : Str) ++ x) ++ ("'" : Str) := by
  have hq : reprQuote x = 39 := by
    unfold reprQuote
    have : x.cps.contains 39 = false := by
      rw [Array.contains_eq_mem]
      refine decide_eq_false fun hm => ?_
      have := h 39 (by rw [show tl x = x.cps.toList from rfl]; exact Array.mem_toList_iff.mpr hm)
      simp [plainC] at this
    rw [this]
    rfl
  have e : tl (reprText x) = tl ((("'" : Str) ++ x) ++ ("'" : Str)) := by
    rw [tl_append, tl_append]
    unfold reprText
    rw [hq]
    show ((x.cps.foldl (fun out c => out ++ (reprChar 39 c).toArray) #[39]).push 39).toList = _
    rw [Array.toList_push, ← Array.foldl_toList, fold_plain _ _ (fun c hc => h c hc)]
    rfl
  exact (List.cons.inj (map_tl_inj (l := [_]) (m := [_]) (by rw [List.map_cons, List.map_cons, e]))).1
theorem tx_plain (i : Int) : ∀ c ∈ tl (tx i), plainC c = true ∧ c ≠ 32 := by
  intro c hc
  have hd : c = 45 ∨ (48 ≤ c ∧ c ≤ 57) := by
    rcases tx_cases i with ⟨n, _, e⟩ | ⟨n, _, _, e⟩
    · rw [e] at hc
      rcases Nat.lt_or_ge c 48 with h | h
      · exact absurd hc (numL_free (.inl h))
      · rcases Nat.lt_or_ge 57 c with h2 | h2
        · exact absurd hc (numL_free (.inr h2))
        · exact .inr ⟨h, h2⟩
    · rw [e] at hc
      rcases List.mem_cons.mp hc with rfl | hc
      · exact .inl rfl
      rcases Nat.lt_or_ge c 48 with h | h
      · exact absurd hc (numL_free (.inl h))
      · rcases Nat.lt_or_ge 57 c with h2 | h2
        · exact absurd hc (numL_free (.inr h2))
        · exact .inr ⟨h, h2⟩
  rcases hd with rfl | ⟨h1, h2⟩
  · exact ⟨by decide, by decide⟩
  · refine ⟨?_, by omega⟩
    simp only [plainC, Bool.and_eq_true, decide_eq_true_eq, Bool.not_eq_true', decide_eq_false_iff_not]
    omega
theorem rstr_plain (q : Rat) : ∀ c ∈ tl (rstr q), plainC c = true ∧ c ≠ 32 := by
  intro c hc
  rw [rstr_tl] at hc
  split at hc
  · exact tx_plain _ c hc
  · rcases List.mem_append.mp hc with h | h
    · exact tx_plain _ c h
    · rcases List.mem_cons.mp h with rfl | h
      · exact ⟨by decide, by decide⟩
      · exact tx_plain _ c h
theorem estr_plain (r : Ent) : ∀ c ∈ tl (estr r), plainC c = true ∧ c ≠ 32 := by
  cases r with
  | none =>
    intro c hc
    have hc : c ∈ [95] := hc
    rw [List.mem_singleton.mp hc]
    exact ⟨by decide, by decide⟩
  | some q => exact rstr_plain q
theorem tx_ne (i : Int) : tl (tx i) ≠ [] := by
  rcases tx_cases i with ⟨n, _, e⟩ | ⟨n, _, _, e⟩
  · rw [e]; exact numL_ne n
  · rw [e]; simp
theorem tx_ne95 (i : Int) : tl (tx i) ≠ [95] := by
  intro h
  have := tx_free (i := i) (s := 95) (by omega)
  rw [h] at this
  exact this List.mem_cons_self
theorem rstr_us (q : Rat) : rstr q ≠ ("_" : Str) := by
  intro h
  have e : tl (rstr q) = [95] := by rw [h]; rfl
  rw [rstr_tl] at e
  split at e
  · exact tx_ne95 _ e
  · have := congrArg List.length e
    have h2 : 0 < (tl (tx q.num)).length := List.length_pos_iff.mpr (tx_ne _)
    rw [List.length_append, List.length_cons, List.length_singleton] at this
    have h3 : 0 < (tl (tx (q.den : Int))).length := List.length_pos_iff.mpr (tx_ne _)
    omega
theorem rstr_ne (q : Rat) : tl (rstr q) ≠ [] := by
  rw [rstr_tl]
  split
  · exact tx_ne _
  · simp
theorem estr_ne (r : Ent) : tl (estr r) ≠ [] := by
  cases r with
  | none => show [95] ≠ []; simp
  | some q => exact rstr_ne q
theorem tl_line (rs : List Ent) : tl (line rs) = joinL [32] ((rs.map estr).map tl) := by
  unfold line
  rw [join_eq, tl_join] <;> rfl
theorem joinL_mem {y : List Nat} : ∀ {xs : List (List Nat)} {c : Nat}, c ∈ joinL y xs → c ∈ y ∨ ∃ x ∈ xs, c ∈ x
  | [], c, h => by cases h
  | [x], c, h => .inr ⟨x, List.mem_cons_self, h⟩
  | x :: z :: r, c, h => by
    have h : c ∈ x ++ (y ++ joinL y (z :: r)) := h
    rcases List.mem_append.mp h with h | h
    · exact .inr ⟨x, List.mem_cons_self, h⟩
    · rcases List.mem_append.mp h with h | h
      · exact .inl h
      · rcases joinL_mem h with h | ⟨w, hw, hc⟩
        · exact .inl h
        · exact .inr ⟨w, List.mem_cons_of_mem _ hw, hc⟩
theorem line_plain (rs : List Ent) : ∀ c ∈ tl (line rs), plainC c = true := by
  intro c hc
  rw [tl_line] at hc
  rcases joinL_mem hc with h | ⟨x, hx, h⟩
  · rw [List.mem_singleton.mp h]; decide
  · obtain ⟨y, hy, rfl⟩ := List.mem_map.mp hx
    obtain ⟨r, _, rfl⟩ := List.mem_map.mp hy
    exact (estr_plain r c h).1
theorem line_nil : line [] = ("" : Str) := rfl
theorem line_ne {rs : List Ent} (h : rs ≠ []) : line rs ≠ ("" : Str) := by
  intro z
  have e : tl (line rs) = [] := by rw [z]; rfl
  rw [tl_line] at e
  cases rs with
  | nil => exact h rfl
  | cons r t =>
    cases t with
    | nil => exact estr_ne r e
    | cons r2 t2 =>
      have e2 : tl (estr r) ++ ([32] ++ joinL [32] ((estr r2 :: t2.map estr).map tl)) = [] := e
      exact estr_ne r (List.append_eq_nil_iff.mp e2).1
theorem line_split {rs : List Ent} (h : rs ≠ []) : Txt.split (line rs) (" " : Str) = rs.map estr := by
  refine split_join (s := 32) (S := []) rfl (by decide +kernel) (by simpa using h) fun p hp => ?_
  obtain ⟨r, _, rfl⟩ := List.mem_map.mp hp
  exact fun hc => (estr_plain r 32 hc).2 rfl
theorem line_repr (rs : List Ent) : reprText (line rs) = (("'" : Str) ++ line rs) ++ ("'" : Str) := reprText_plain (line_plain rs)
theorem ok_plain {x : Str} (h : ∀ c ∈ tl x, plainC c = true) : PyData.strOk x = true := by
  unfold PyData.strOk
  rw [Array.all_eq_true_iff_forall_mem]
  intro c hc
  have := h c (Array.mem_toList_iff.mpr hc)
  simp only [plainC, Bool.and_eq_true, decide_eq_true_eq] at this
  simp
  omega
/-! ### lengths -/
def SzE (n : Nat) (rs : List Ent) : Prop := ∀ q, some q ∈ rs → Sz n q
theorem estr_len {r : Ent} (h : ∀ q, r = some q → Sz 800 q) : (estr r).length ≤ 501 := by
  cases r with
  | none => show 1 ≤ 501; omega
  | some q =>
    have s := h q rfl
    exact rstr_len (n := 250) (tx_short s.1) (tx_short (show (q.den : Int).natAbs < 2 ^ 800 from s.2))
theorem sum_le {k : Nat} : ∀ {xs : List Nat}, (∀ x ∈ xs, x ≤ k) → xs.sum ≤ xs.length * k
  | [], _ => by simp
  | x :: r, h => by
    have := sum_le (k := k) fun y hy => h y (List.mem_cons_of_mem _ hy)
    have := h x List.mem_cons_self
    simp only [List.sum_cons, List.length_cons, Nat.add_mul, Nat.one_mul]
    omega
theorem line_sum {rs : List Ent} (h : SzE 800 rs) : ((rs.map estr).map (·.length)).sum ≤ rs.length * 501 := by
  have := sum_le (k := 501) (xs := (rs.map estr).map (·.length)) fun x hx => by
    obtain ⟨y, hy, rfl⟩ := List.mem_map.mp hx
    obtain ⟨r, hr, rfl⟩ := List.mem_map.mp hy
    exact estr_len fun q e => h q (e ▸ hr)
  simpa using this
theorem line_len {rs : List Ent} (h : SzE 800 rs) : (line rs).length ≤ rs.length * 502 := by
  unfold line
  rw [join_eq]
  refine Nat.le_trans (StrLaws.join_length_le _ _) ?_
  have := line_sum h
  have e : (" " : Str).length = 1 := rfl
  rw [List.length_map, e]
  omega
end SK

/-! What is seen of a series, as the law lists it. -/
namespace SK
open PySem PySem.Spec PyProof.Rows L2 SF SQ TL
def gapsTo (rs : List Ent) (i : Nat) : List Nat := (List.range i).filter fun k => decide (rs[k]? = some none)
theorem gaps_step (rs : List Ent) (i : Nat) : gapsTo rs (i + 1) = gapsTo rs i ++ (if rs[i]? = some none then [i] else []) := by
  unfold gapsTo
  rw [List.range_succ, List.filter_append]
  congr 1
  by_cases h : rs[i]? = some none
  · rw [if_pos h]; simp [h]
  · rw [if_neg h]; simp [h]
theorem gaps_len (rs : List Ent) (i : Nat) : (gapsTo rs i).length ≤ i := by
  unfold gapsTo
  refine Nat.le_trans (List.length_filter_le _ _) ?_
  simp
theorem gaps_lt (rs : List Ent) (i : Nat) : ∀ k ∈ gapsTo rs i, k < i := by
  intro k hk
  unfold gapsTo at hk
  exact List.mem_range.mp (List.mem_filter.mp hk).1
def gapV (rs : List Ent) : List V := (gapsTo rs rs.length).map fun k => V.int (k : Nat)
def gapD (rs : List Ent) : List PyData := (gapsTo rs rs.length).map fun k => PyData.int (k : Nat)
def srepr (rs : List Ent) : PySem.Str := ((Str.empty ++ ("Series(" : PySem.Str)) ++ ((("'" : PySem.Str) ++ line rs) ++ ("'" : PySem.Str))) ++ (")" : PySem.Str)
def seenD (rs : List Ent) : PyData := .list [.tuple (gapD rs), .int (rs.length : Nat), .str (line rs), .str (srepr rs), .bool (((rs.length : Nat) : Int) != 0), .bool true]
theorem srepr_is (rs : List Ent) : srepr rs = (("Series('" : PySem.Str) ++ line rs) ++ ("')" : PySem.Str) := by
  have e : tl (srepr rs) = tl ((("Series('" : PySem.Str) ++ line rs) ++ ("')" : PySem.Str)) := by
    unfold srepr
    simp only [tl_append, List.append_assoc]
    rfl
  exact (List.cons.inj (map_tl_inj (l := [_]) (m := [_]) (by rw [List.map_cons, List.map_cons, e]))).1
theorem srepr_len (rs : List Ent) : (srepr rs).length = (line rs).length + 10 := by
  rw [srepr_is, Str.length_append, Str.length_append]
  have e1 : ("Series('" : PySem.Str).length = 8 := rfl
  have e2 : ("')" : PySem.Str).length = 2 := rfl
  omega
theorem sd_gaps {H : Hp} : ∀ l : List Nat, SX.SdAll H (l.map fun k => V.int (k : Nat)) (l.map fun k => PyData.int (k : Nat))
  | [] => .nil
  | k :: r => .cons (.int _) (sd_gaps r)
theorem log_small {k : Nat} (h : k ≤ 1000) : ((k : Nat) : Int).natAbs.log2 < 1920 := by
  refine Nat.lt_of_le_of_lt (Nat.log2_le_self _) ?_
  simp
  omega
theorem show_ints : ∀ l : List Nat, (∀ k ∈ l, k ≤ 1000) → PyData.showableAll (l.map fun k => PyData.int (k : Nat)) = true ∧ PyData.depthAll (l.map fun k => PyData.int (k : Nat)) = 0 ∧ PyData.leavesShortAll 8 (l.map fun k => PyData.int (k : Nat)) = true
  | [], _ => ⟨rfl, rfl, rfl⟩
  | k :: r, h => by
    obtain ⟨a, b, c⟩ := show_ints r fun x hx => h x (List.mem_cons_of_mem _ hx)
    have hk := h k List.mem_cons_self
    have hlen : (PyData.shown (.int ((k : Nat) : Int))).length ≤ 8 := by
      show (tx ((k : Nat) : Int)).length ≤ 8
      rw [len_tl, tx_nat]
      exact Nat.le_trans (numL_len (n := k) (k := 4) (by decide) (by omega)) (by decide)
    refine ⟨?_, ?_, ?_⟩
    · simp only [List.map_cons, PyData.showableAll, PyData.showable, a, Bool.and_true]
      exact decide_eq_true (log_small hk)
    · simp only [List.map_cons, PyData.depthAll, b, PyData.depth]
      rfl
    · simp only [List.map_cons, PyData.leavesShortAll, c, Bool.and_true, PyData.leavesShort]
      exact decide_eq_true hlen
theorem weight_int {k : Nat} (h : k ≤ 1000) : PyData.weight (.int (k : Nat)) ≤ 10 := by
  show (if ((k : Nat) : Int) == 0 then 0 else ((k : Nat) : Int).natAbs.log2 + 1) ≤ 10
  split
  · omega
  · rename_i hk
    have h0 : k ≠ 0 := fun z => hk (by subst z; rfl)
    have : ((k : Nat) : Int).natAbs.log2 < 10 := (Nat.log2_lt (by simpa using h0)).mpr (by simp; omega)
    omega
theorem weight_ints : ∀ l : List Nat, (∀ k ∈ l, k ≤ 1000) → PyData.weightAll (l.map fun k => PyData.int (k : Nat)) ≤ 11 * l.length
  | [], _ => Nat.le_refl _
  | k :: r, h => by
    have h1 := weight_ints r fun x hx => h x (List.mem_cons_of_mem _ hx)
    have h2 := weight_int (h k List.mem_cons_self)
    simp only [List.map_cons, PyData.weightAll, List.length_cons]
    omega
theorem big_chars {x : PySem.Str} (h : ∀ c ∈ tl x, c < 1000) : (x.cps.toList.all fun c => decide (c < 16 ^ 8)) = true := by
  rw [List.all_eq_true]
  intro c hc
  have := h c hc
  exact decide_eq_true (Nat.lt_of_lt_of_le this (by decide))
theorem line_lt (rs : List Ent) : ∀ c ∈ tl (line rs), c < 1000 := by
  intro c hc
  have := line_plain rs c hc
  simp only [plainC, Bool.and_eq_true, decide_eq_true_eq] at this
  omega
theorem srepr_lt (rs : List Ent) : ∀ c ∈ tl (srepr rs), c < 1000 := by
  intro c hc
  rw [srepr_is, tl_append, tl_append] at hc
  rcases List.mem_append.mp hc with h | h
  · rcases List.mem_append.mp h with h | h
    · exact (by decide : ∀ c ∈ tl ("Series('" : PySem.Str), c < 1000) c h
    · exact line_lt rs c h
  · exact (by decide : ∀ c ∈ tl ("')" : PySem.Str), c < 1000) c h
theorem seen_ok {rs : List Ent} (hl : rs.length ≤ 400) (sz : SzE 800 rs) : (seenD rs).showable = true ∧ (seenD rs).depth ≤ 8 ∧ (seenD rs).shown.length ≤ sizeLine := by
  have hb : ∀ k ∈ gapsTo rs rs.length, k ≤ 1000 := fun k hk => by have := gaps_lt rs _ k hk; omega
  obtain ⟨g1, g2, g3⟩ := show_ints _ hb
  have g4 := weight_ints _ hb
  have g5 := gaps_len rs rs.length
  have ll := line_len sz
  have sl := srepr_len rs
  have wl := weight_int (k := rs.length) (by omega)
  obtain ⟨w1, w2, w3⟩ := show_ints [rs.length] (by intro k hk; rw [List.mem_singleton.mp hk]; omega)
  refine ⟨?_, ?_, ?_⟩
  · simp only [seenD, PyData.showable, PyData.showableAll, gapD, g1, Bool.true_and, Bool.and_true]
    exact decide_eq_true (log_small (by omega))
  · simp only [seenD, PyData.depth, PyData.depthAll, gapD, g2]
    decide
  · have le : (seenD rs).leavesShort 8 = true := by
      have wl' : PyData.leavesShort 8 (.int (rs.length : Nat)) = true := by simpa [PyData.leavesShortAll] using w3
      simp only [seenD, PyData.leavesShort, PyData.leavesShortAll, gapD, g3, Bool.true_and, Bool.and_true] at wl' ⊢
      rw [wl', big_chars (line_lt rs), big_chars (srepr_lt rs)]
      rfl
    have h1 := PyData.shown_le 8 (Nat.le_refl _) (seenD rs) le
    have h2 : (seenD rs).weight ≤ 402100 + 4500 := by
      simp only [seenD, PyData.weight, PyData.weightAll, gapD] at wl ⊢
      have e1 : (line rs).cps.size = (line rs).length := rfl
      have e2 : (srepr rs).cps.size = (srepr rs).length := rfl
      omega
    have h3 : sizeLine = 16777216 := rfl
    omega
end SK

/-! repr of a tuple of own instances, also where an error is in hand. -/
namespace SFx
open PySem PySem.Spec PyProof.Rows PySem.W
section
variable {prog : Program} {w : World} {A : Around} {E : Value → Shared → Prop} {s : Shared} {K : Frag} {x C f : Addr} {ox : Obj} {od : Option Obj}
/-- a special method of an own instance, by whatever runs it last -/
theorem boundBy_fn {M : Model} {name : Str} {last : Value → List Value → Sem Value} {Q : Option Value → Shared → Prop} (X : K.In s.heap) (I : InstAt s.heap x ox C od) (hs : findIn K (.ref C) name = some (some (.ref f))) (hf : isFn K (.ref f) = true)
    (h : wpAny M A (last (.ref f) [.ref x]) (fun v => Q (some v)) E s) : wpAny M A (callSpecialIfBoundBy? last (.ref x) name) Q E s := by
  simp only [callSpecialIfBoundBy?, bindSpecialIfBound?]
  refine wpAny_holding (wpAny_bind (wpAny_bind (wpAny_bind (I.type.here ((looks_findIn X hs).here ?_)))))
  refine wpAny_bind (wpAny_askSetting (wpAny_ite ?_))
  have fin : wpAny M A (last (.ref f) [.ref x] >>= fun v => pure (some v)) Q E s := wpAny_bind (wpAny_mono h (fun v s' h' => wpAny_pure h') fun _ _ h' => h')
  split
  · exact wpAny_bind ((bind_fn X _ (beq_iff_eq.mp hf)).here (wpAny_pure (by exact fin)))
  · exact wpAny_tryCatch (wpAny_bind ((bind_fn X _ (beq_iff_eq.mp hf)).here (wpAny_pure (by exact fin))))
/-- repr of an own instance below another repr -/
theorem under_own {Q : Str → Shared → Prop} {b : Nat} (hb : b ≤ sizeLine) (hu : A.units < cLine) (X : K.In s.heap) (I : InstAt s.heap x ox C od) (hs : findIn K (.ref C) "__repr__" = some (some (.ref f))) (hf : isFn K (.ref f) = true)
    (h : wpAny (model prog w) A (call (.ref f) [.ref x]) (fun v s' => ∃ y t, v = .str y t ∧ Q y s') E s) : wpAny (model prog w) A (pyReprUnder b (.ref x)) Q E s := by
  refine wpAny_pyReprUnder_ref hb ?_
  unfold pyReprObjUnder pyReprObjBy
  refine wpAny_bind (wpAny_cRoomFor hu ?_)
  refine wpAny_bind (wpAny_bind (I.type.here ((looks_findIn X hs).here ?_)))
  show wpAny _ _ (if (some (Value.ref f)).isNone = true then _ else _) _ _ _
  rw [if_neg (by simp)]
  refine wpAny_bind (m := callSpecialIfBoundBy? _ (.ref x) (Str.ofString "__repr__")) (boundBy_fn X I hs hf ?_)
  show wpAny _ _ (call (.ref f) ([.ref x] ++ [])) _ _ _
  rw [List.append_nil]
  refine wpAny_mono h (fun v s' hv => ?_) fun _ _ e => e
  obtain ⟨y, t, rfl, hq⟩ := hv
  refine wpAny_bind (wpAny_isInstance (typeIs_str _ _ _) isSubtype_str_str ?_)
  first
    | exact wpAny_pure ⟨_, _, rfl, hq⟩
    | (rw [if_pos rfl]; exact wpAny_pure ⟨_, _, rfl, hq⟩)
    | (simp only [if_true]; exact wpAny_pure ⟨_, _, rfl, hq⟩)
end
end SFx
namespace SFx
open PySem PySem.Spec PyProof.Rows PySem.W PySem.Builtin
section
variable {prog : Program} {w : World}
/-- repr of u below other reprs is t, and what J says stays -/
def ItemJ (prog : Program) (w : World) (A : Around) (E : Value → Shared → Prop) (J : Shared → Prop) (u : Value) (t : Str) : Prop :=
  ∀ (b : Nat) (s : Shared) (Q : Str → Shared → Prop), b + t.length ≤ sizeLine → J s → (∀ s', J s' → Q t s') → wpAny (model prog w) A (pyReprUnder b u) Q E s
inductive ItemsJ (prog : Program) (w : World) (A : Around) (E : Value → Shared → Prop) (J : Shared → Prop) : List Value → List Str → Prop
  | nil : ItemsJ prog w A E J [] []
  | cons {u : Value} {t : Str} {us : List Value} {ts : List Str} : ItemJ prog w A E J u t → ItemsJ prog w A E J us ts → ItemsJ prog w A E J (u :: us) (t :: ts)
variable {A : Around} {E : Value → Shared → Prop} {J : Shared → Prop}
theorem ItemsJ.len {us : List Value} {ts : List Str} (h : ItemsJ prog w A E J us ts) : ts.length = us.length := by
  induction h with
  | nil => rfl
  | cons _ _ ih => simp [ih]
theorem foldJ {us : List Value} {ts : List Str} (h : ItemsJ prog w A E J us ts) : ∀ (acc : Array Str) (n : Nat) (s : Shared) (Q : (Array Str × Nat) → Shared → Prop), n + piled ts ≤ sizeLine → J s → (∀ s', J s' → Q ⟨acc ++ ts.toArray, n + piled ts⟩ s') →
    wpAny (model prog w) A (forIn us (⟨acc, n⟩ : (Array Str × Nat)) tupBody) Q E s := by
  induction h with
  | nil =>
    intro acc n s Q _ j k
    simp only [List.forIn_nil]
    exact wpAny_pure (by simpa [piled] using k s j)
  | @cons u t us ts hu _ ih =>
    intro acc n s Q hn j k
    rw [piled_cons] at hn
    rw [List.forIn_cons]
    refine wpAny_bind (wpAny_bind (hu (n + 1) s _ (by omega) j fun s1 j1 => wpAny_pure ?_))
    refine ih (acc.push t) (n + (t.length + 2)) s1 Q (by omega) j1 fun s2 j2 => ?_
    have k2 := k s2 j2
    have e : n + piled (t :: ts) = n + (t.length + 2) + piled ts := by rw [piled_cons]; omega
    rw [e] at k2
    simpa using k2
theorem tupOwnJ {a : Addr} {o : Obj} {items : Array Value} {n : Nat} {ts : List Str} {g : List Code} {s : Shared} {R : Result → Shared → Prop} {base : Nat} {id : String} {rest : List Value}
    (hd : o.data = .seq items n) (ho : s.heap.get? a = some o) (ht : ∀ (s : Shared) (k : Nat), J s → J { s with toks := k }) (hcg : (Code.builtin id ⟨.ref a :: rest, []⟩).isGuard = true) (hg : A.guards = some g) (hca : Clear g a)
    (hT : ItemsJ prog w (A.under (.builtin id ⟨.ref a :: rest, []⟩)) (fun e s' => R (.error e) s') J items.toList ts) (j : J s) (hR : ∀ s' u, J s' → R (.ok (.ret (.str (tupleText ts) u))) s') (hsz : base + (tupleText ts).length ≤ sizeLine) :
    wpOwn (model prog w) A (.builtin id ⟨.ref a :: rest, []⟩) (Builtin.tupleReprAt base ⟨[.ref a], []⟩) (fun fin s' => match fin with | .done f => R (.ok f) s' | .again c' => c'.quiet = true ∧ codeAny (model prog w) A c' R s') (fun e s' => R (.error e) s') s := by
  have hlen : ts.length = items.size := by simpa using hT.len
  have hp := piled_le_tupleText ts
  have hsz0 : (tupleText ts).length ≤ sizeLine := by omega
  rw [tuple_repr_tree, tupleReprUnderWay_eq]
  refine wpOwn_bind (wpOwn_stackTailAny hg (tupGuardF_off _) (tupGuardF_pos _) ?_)
  have hn : (g.any fun c => tupGuardF (.ref a) (c, default)) = false := by
    rw [List.any_eq_false]
    intro c hcm
    rw [tupGuardF_of_clear hca c hcm]
    exact Bool.false_ne_true
  rw [hn]
  refine wpOwn_of_wpAny ?_
  show wpAny _ _ (tupleReprRest base (.ref a)) _ _ s
  unfold tupleReprRest Builtin.Tuple.tupleItemsOf
  refine wpAny_bind (wpAny_bind (wpAny_seqItems ho hd (wpAny_pure ?_)))
  rw [← Array.forIn_toList]
  refine wpAny_bind (foldJ hT _ _ _ _ (by omega) j fun s1 j1 => ?_)
  refine wpAny_bind (wpAny_mkStr (wpAny_pure ?_) (by simpa [tupleText, hlen] using hsz0))
  have h1 := hR _ s1.toks (ht s1 (s1.toks + 1) j1)
  simpa [tupleText, hlen] using h1
/-- tuple.__repr__ -/
theorem call_tupJ {a : Addr} {o : Obj} {items : Array Value} {n : Nat} {ts : List Str} {g : List Code} {s : Shared} {Q : Value → Shared → Prop}
    (hc : o.cls = .type "tuple") (hd : o.data = .seq items n) (ho : s.heap.get? a = some o) (ht : ∀ (s : Shared) (k : Nat), J s → J { s with toks := k }) (hg : A.guards = some g) (hca : Clear g a)
    (hT : ItemsJ prog w (A.under (.builtin "tuple.__repr__" ⟨[.ref a], []⟩)) E J items.toList ts) (j : J s) (hQ : ∀ s' u, J s' → Q (.str (tupleText ts) u) s') (hsz : (tupleText ts).length ≤ sizeLine) :
    wpAny (model prog w) A (call (.builtin "tuple.__repr__") [.ref a]) Q E s :=
  wpAny_call (codeAny_call_builtin_own (Code.quiet_builtin _ (by decide +kernel)) F.entry_tuple_repr (F.slot_tuple_repr.check _ _ _ _ _ _ _ _ ⟨o, ho, hc⟩ (F.args_tuple_repr_1 _)
    (tupOwnJ (base := 0) (R := callEnd Q E) hd ho ht (isGuard_tuple_repr _) hg hca hT j hQ (by omega))))
/-- the same below another repr -/
theorem under_tupJ {a : Addr} {ts : List Str} {g : List Code} (hu : A.units < cLine) (ht : ∀ (s : Shared) (k : Nat), J s → J { s with toks := k }) (hg : A.guards = some g) (hca : Clear g a)
    (hJ : ∀ s, J s → ∃ (o : Obj) (items : Array Value) (n : Nat), s.heap.get? a = some o ∧ o.cls = .type "tuple" ∧ o.data = .seq items n ∧ ∀ b : Nat, ItemsJ prog w (A.under (.builtin "tuple.__repr__.under" ⟨[.ref a, rawInt b], []⟩)) E J items.toList ts) : ItemJ prog w A E J (.ref a) (tupleText ts) := by
  intro b s Q hb j k
  obtain ⟨o, items, n, ho, hc, hd, hT⟩ := hJ s j
  refine wpAny_pyReprUnder_ref (by omega) (wpAny_pyReprObjUnder_twin (twin := "tuple.__repr__.under") ⟨o, ho, hc⟩ F.slot_tuple_repr rfl hu ?_)
  exact call_twin_own (F.quiet_tuple_repr_under _) F.entry_tuple_repr_under F.check_tuple_repr_under ⟨o, ho, hc⟩ F.slot_tuple_repr (F.args_tuple_repr_1 _)
    (tupOwnJ (R := callEnd _ E) hd ho ht (isGuard_tuple_repr_under _) hg hca (hT b) j (fun s' u j' => ⟨⟨_, _, rfl⟩, _, _, rfl, k s' j'⟩) hb)
end
end SFx
namespace SF
open PySem PySem.Spec PyProof.Rows L2 SFT L2H
/-- a def that runs in any surroundings of the context -/
def RunAny (X : Cx) (k : Nat) (f : Addr) (sp : Sp) (E : XK) : Prop := ∀ (A : Around) (pins : List (Addr × Obj)) (σ : L2.St) (H : Hp) (s : Shared) (Q : VK) (us : List Value) (vs : List V), A.frames = X.A.frames → A.handled = X.A.handled → RoomH k A →
  Inv X pins σ H s → Vals vs us → sp vs H Q E → wpAny (model X.prog X.w) A (call (.ref f) us) (EP X pins σ Q) X.xe s
theorem runAny_of {X : Cx} {CX : CXT} {n : Nat} {f : Addr} {fd : FuncData} {ps : List Str} {sp : Sp} {E : XK} (F : FnOk X.prog X.w X.K X.mg X.base CX n f fd ps sp) (hb : Binds X.K fd ps []) (hx : Passes CX X E) (hh : X.A.handled = none) : RunAny X n f sp E :=
  fun A pins σ H s Q us vs hA hd hr I r h => run_fnA F ⟨hd.trans hh, hr.dp, hr.un⟩ hA hb hx I r h
theorem frames_u {A : Around} {c : Code} (h : c.envs = []) : (A.under c).frames = A.frames := by
  unfold Around.under
  show pushEnvs c.envs A.frames = _
  rw [h]
  cases A.frames <;> rfl
section
variable {X : Cx} {C f : Addr} {k : Nat} {sp : Sp} {E : XK}
/-- what repr makes of v within containers: a builtin thing, or an instance whose __repr__ gives it -/
def Shw (C : Addr) (sp : Sp) (E : XK) (H : Hp) (v : V) (y : Str) : Prop := ∃ a dx fs, v = .ref a ∧ H a = some (.ins C dx fs) ∧ ∀ Q : VK, Q (.str y) H → sp [.ref a] H Q E
def rTupOwn (C : Addr) (sp : Sp) (E : XK) : List V → Hp → VK → Prop := fun xs H Q => ∃ (p : Addr) (v : V) (y : Str), xs = [V.ref p] ∧ H p = some (.tup [v]) ∧ Shw C sp E H v y ∧ (tupleText [y]).length ≤ sizeLine ∧ Q (.str (tupleText [y])) H
theorem depth_tr {A : Around} {args : Args} : (A.under (.builtin "tuple.__repr__" args)).depth = A.depth + 1 := by
  first | rfl | simp [Around.under, Code.weight, Code.isCreation, Code.isGuard, Code.isCaller, Code.frames, Code.isFrame, guardIds]
theorem handled_u {A : Around} {c : Code} : (A.under c).handled = A.handled := rfl
theorem call_reprTup (hg : X.A.guards = some []) (hr : RoomH (k + 2) X.A) (hs : PySem.W.findIn X.K (.ref C) "__repr__" = some (some (.ref f))) (hf : PySem.W.isFn X.K (.ref f) = true) (R : RunAny X k f sp E) : CallR X (.builtin "repr") (rTupOwn C sp E) := by
  intro pins s σ H xs us Q I r h
  obtain ⟨p, v, y, rfl, ep, ⟨a, dx, fs, rfl, ea, hq⟩, hz, q⟩ := h
  obtain ⟨u, rfl, ru⟩ := r.one
  cases (show u = Value.ref p from ru)
  obtain ⟨_, its, rv, o, e1, e2, m, e3⟩ := (show ObjOk X.prog X.w H s.heap p (.tup [.ref a]) from I.hok p _ ep)
  obtain ⟨u1, rfl, r1⟩ := rv.one
  cases (show u1 = Value.ref a from r1)
  have hu := hr.un
  refine call_repr_slot (by omega) ⟨o, e1, e2⟩ F.slot_tuple_repr ?_
  refine SFx.call_tupJ (J := fun s' => Inv X pins σ H s') (g := []) e2 e3 e1 (fun s' t I' => I'.tok _) hg (Clear.nil _) (.cons (fun b s' Q' hb I' k' => ?_) .nil) I (fun s' t I' => ⟨_, _, rfl, .str _, H, I', ⟨t, rfl⟩, q⟩) hz
  obtain ⟨od, J'⟩ := inst_of I' ea
  refine SFx.under_own (by omega) ?_ I'.kIn J' hs hf ?_
  · rw [units_under_tuple_repr]
    show X.A.units + 1 + 1 < cLine
    omega
  · refine wpAny_mono (R _ pins σ H s' (fun v H' => v = .str y ∧ H' = H) [.ref a] [.ref a] (frames_u rfl) rfl ⟨?_, ?_⟩ I' (.cons rfl .nil) (hq _ ⟨rfl, rfl⟩)) (fun v s2 z => ?_) fun _ _ e => e
    · have := hr.dp
      have hd := depth_tr (A := X.A.in1) (args := ⟨[.ref p], []⟩)
      have h1 : X.A.in1.depth = X.A.depth := rfl
      omega
    · rw [units_under_tuple_repr]
      show X.A.units + 1 + 1 + 16 * k + 200 < cLine
      omega
    · obtain ⟨v', H', I2, rv2, rfl, rfl⟩ := z
      obtain ⟨t, rfl⟩ := (show ∃ t, v = Value.str y t from rv2)
      exact ⟨y, t, rfl, k' s2 I2⟩
end
end SF
namespace SFT
open PySem PySem.Spec PyProof.Rows L2 SF L2H
structure FnQ (P : Program) (w : World) (K : PySem.W.Frag) (mg : Str → Option Value) (base : Heap) (CX : CXT) (k : Nat) (p : Addr × Obj) (f : Addr) (fd : FuncData) (ps : List Str) (sp : Sp) : Prop where
  len : ∀ vs H Q E, sp vs H Q E → vs.length = ps.length
  run : ∀ (A : Around) (outer : List Env) (s : Shared) (H : Hp) (args : Args) (us : List Value) (vs : List V) (Q : VK) (E : XK), RoomH k A → PinOk outer H s p → Env0 P w K mg base A outer s H → BindsTo s fd args (ps.zip us) → Vals vs us → sp vs H Q E →
    codeAny (model P w) A (.call (.ref f) args) (CR CX outer P w H s Q E) s
theorem fn_ofQ {CX : CXT} {P : Program} {w : World} {K : PySem.W.Frag} {mg : Str → Option Value} {base : Heap} {k : Nat} {f : Addr} {name qual : Str} {params : Arguments} {body : List Stmt} {scope : Scope} {dV kV doc pm cdv ct oc : Value} {an od : Option Addr}
    {osl : Array (Option Value)} {N ps : List Str} {sp : Sp} {p : Addr × Obj} (lk : K.lookup f = some ⟨oc, od, .func (PySem.W.fnOf name qual params body scope dV kV doc pm an cdv ct), osl⟩) (hcd : PySem.W.codeIn K cdv qual = true) (S : FnScope N ps scope)
    (len : ∀ vs H Q E, sp vs H Q E → vs.length = ps.length)
    (hbody : ∀ (A : Around) (outer : List Env) (s : Shared) (H : Hp) (vs : List V) (Q : VK) (E : XK), RoomH k (A.deeper (envOfC qual scope s.heap.objs.size f cdv)) → sp vs H Q E →
      ∃ t, PSs (cxH CX P w K mg base N qual scope f cdv A outer s H E p) body t ∧ t { nx := fun _ H' => Q .non H', rt := Q } (L2.start N vs) H) :
    FnQ P w K mg base CX (k + 1) p f (PySem.W.fnOf name qual params body scope dV kV doc pm an cdv ct) ps sp := by
  refine ⟨len, fun A outer s H args us vs Q E hr hpin e0 hb r hsp => ?_⟩
  have hl := len _ _ _ _ hsp
  have KX : K.In s.heap := e0.mod.kin.keeps fun b o e => (e0.bs b o e).1
  have lim : s.heap.NoLimit := e0.mod.nolimit.keeps fun b o e => (e0.bs b o e).1
  have hkind : ∀ y ∈ ps.zip us, scope.names.lookup y.1 = some .local ∨ (scope.names.lookup y.1 = some .cell ∧ ((cellsFrom (s.heap.objs.size + 1) scope.names []).lookup y.1).isSome = true) := fun ⟨n, v⟩ hy => by
    rcases S.par n (List.of_mem_zip hy).1 with q | q
    · exact .inl q
    · exact .inr ⟨q, PySem.W.cellsFrom_some _ _ _ (.inl q)⟩
  refine codeAny_call_function hr.depth (KX _ _ lk) rfl S.co S.gen rfl (PySem.W.codeRec_of KX hcd) (hb _ _ _ _ ?_)
  refine wpAny_newFunctionEnv_cells S.kind hkind fun env he s1 x => ?_
  subst he
  refine ⟨lim.keeps x.toInCall.keep, codeAny_func ?_⟩
  obtain ⟨t, ht, hq⟩ := hbody A outer s H vs Q E (hr.deeper _) hsp
  have I : Inv (cxH CX P w K mg base N qual scope f cdv A outer s H E p) [] (L2.start N vs) H s1 := inv_startH S hpin e0 hl r x
  refine wpAny_mono (ht.run [] s1 (L2.start N vs) H _ I hq) (fun fl s' hs => ?_) fun e s' hs => hs
  have fin : ∀ {σ' : L2.St} {H' : Hp} {v : V} {u : Value}, Inv (cxH CX P w K mg base N qual scope f cdv A outer s H E p) [] σ' H' s' → RelV v u → Q v H' → CE outer P w H s Q u s' :=
    fun {σ' H' v u} J rv q => ⟨v, H', J.os, J.bare, J.base, J.hok, rv, q⟩
  cases fl with
  | ret u =>
    obtain ⟨v, σ', H', J, rv, q⟩ := hs
    exact fin J rv q
  | next =>
    obtain ⟨σ', H', J, q⟩ := hs
    exact fin (v := V.non) (u := Value.none) J rfl q
  | brk =>
    obtain ⟨_, _, _, q⟩ := hs
    exact False.elim q
  | cont =>
    obtain ⟨_, _, _, q⟩ := hs
    exact False.elim q

section
variable {P : Program} {w : World} {K : PySem.W.Frag} {mg : Str → Option Value} {base : Heap}
theorem Fun.okQ {x qual : Str} {st : Stmt} {f : Addr} {fd : FuncData} {N ps : List Str} {k : Nat} {sp : Sp} {p : Addr × Obj} (F : Fun K x qual st f fd) (S : FnScope N ps (defScope st)) (len : ∀ vs H Q E, sp vs H Q E → vs.length = ps.length)
    (hbody : ∀ (cdv : Value) (A : Around) (outer : List Env) (s : Shared) (H : Hp) (vs : List V) (Q : VK) (E : XK), RoomH k (A.deeper (envOfC qual (defScope st) s.heap.objs.size f cdv)) → sp vs H Q E →
      ∃ t, PSs (cxH CX0 P w K mg base N qual (defScope st) f cdv A outer s H E p).nox (defBody st) t ∧ t { nx := fun _ H' => Q .non H', rt := Q } (start N vs) H) : FnQ P w K mg base CX0 (k + 1) p f fd ps sp := by
  obtain ⟨oc, od, kV, doc, pm, an, cdv, ct, osl, rfl, lk, hcd⟩ := F.ex
  refine fn_ofQ lk hcd S len fun A outer s H vs Q E hr hsp => ?_
  obtain ⟨t, h, q⟩ := hbody cdv A outer s H vs Q E hr hsp
  exact ⟨t, h.nox, q⟩
end
theorem runAny_ofQ {X : Cx} {k : Nat} {f : Addr} {fd : FuncData} {ps : List Str} {sp : Sp} {p : Addr × Obj} (F : FnQ X.prog X.w X.K X.mg X.base CX0 k p f fd ps sp) (hp : p ∈ X.pn) (hb : Binds X.K fd ps []) : RunAny X k f sp E0 := fun A pins σ H s Q us vs hA _ hr I r h => by
  have hl : us.length = ps.length := by rw [← r.length]; exact F.len _ _ _ _ h
  have b := hb s us I.kIn (by rw [List.append_nil]; exact hl)
  rw [List.append_nil] at b
  have P1 := I.pin p (List.mem_append_left _ hp)
  have hpin : PinOk X.stack H s p := ⟨P1.1, P1.2.1, fun hm => (List.mem_cons.mp (I.stkSub p.1 hm)).elim P1.2.2.1 P1.2.2.2.1, P1.2.2.2.2⟩
  have e0 : Env0 X.prog X.w X.K X.mg X.base A X.stack s H := by
    have e := I.env0
    exact ⟨hA.trans e.frames, e.mod, e.bs, e.bsz, e.funs, e.frf, e.hok, e.bare⟩
  refine wpAny_call (codeAny_mono (F.run A X.stack s H ⟨us, []⟩ us vs Q E0 hr hpin e0 b r h) fun r s' hq => ?_)
  cases r with
  | error e => exact False.elim hq
  | ok fl =>
    cases fl with
    | ret u => exact I.after hq
    | next => exact False.elim hq
    | brk => exact False.elim hq
    | cont => exact False.elim hq
end SFT

/-! Raising an own error over ValueError that keeps what it is given. -/
namespace SQ
open PySem PySem.Spec PyProof.Rows L2 SF
/-- the __init__ of an error of the class at C: given is kept -/
def spOI (C : Addr) : Sp := fun vs H Q _ => ∃ (p : Addr) (y : V), vs = [.ref p, y] ∧ H p = some (exo p C none) ∧ ∀ dx, H dx = none → dx ≠ p → Q .non (upd (upd H dx (exd dx [("given", y)])) p (exo p C (some dx)))
/-- the error's class by its name -/
structure OE (P : Program) (w : World) (K : PySem.W.Frag) (mg : Str → Option Value) (base : Heap) (nm : Str) (C fI : Addr) (fd : FuncData) : Prop where
  g : mg nm = some (.ref C)
  T : OexC K C
  iC : PySem.W.findIn K (.ref C) "__init__" = some (some (.ref fI))
  tI : PySem.W.typeIn K (.ref fI) = some (.type "function")
  F : FnOk P w K mg base CX0 1 fI fd ["self", "given"] (spOI C)
  b : Binds K fd ["self", "given"] []
/-- the error goes out, with v in hand -/
def ErrG (E : XK) (C : Addr) (v : V) (H : Hp) : Prop := ∀ dx H', Same H H' → H' dx = some (.xd [("given", v)]) → E (.ref C) (some dx) H'
theorem ErrG.mono {E : XK} {C : Addr} {v : V} {H H' : Hp} (h : ErrG E C v H) (S : Same H H') : ErrG E C v H' := fun dx H2 S2 e => h dx H2 (S.trans S2) e
section
variable {X : Cx} {C fI : Addr} {fd : FuncData} {nm : Str} {W : WX} {e : Expr} {te : TE} {p pos rpos : Pos}
theorem ps_oe (O : OE X.prog X.w X.K X.mg X.base nm C fI fd) (hc : X.calm = true) (tk : Takes X W) (hr : Room 2 X.A) (hg : Gl X nm) (he : PE X e te) (hm : ∀ σ H Q Q', (∀ v H', Q v H' → Q' v H') → te σ H Q → te σ H Q') (hdb : (nm == ("__debug__" : Str)) = false := by decide)
    (hs : starEach (e :: []) X.env = (false, eval e X.env) :: starEach [] X.env := by rfl) (hpl : (backTo pos (starEach [] X.env)).any (·.1) = false := by rfl) :
    PS X (.Raise (some (.Call (.Name nm p) [e] [] pos)) none rpos) (fun _ σ H => te σ H fun v H1 => ErrG (fun c d H' => W c d σ H') C v H1) := by
  have h1 : PS X (.Raise (some (.Call (.Name nm p) [e] [] pos)) none rpos) _ := ps_raise hc tk (pmk_oex O.T O.iC O.tI O.F hr O.b .nil pass0 hg O.g (pa_cons he pa_nil hs) hdb hs hpl)
  refine ⟨fun pins s σ H D I h => h1.run pins s σ H D I ?_⟩
  refine hm _ _ _ _ (fun v H1 z => ?_) h
  refine ⟨by show 1 ≤ 1000; decide, fun a na => ⟨a, v, rfl, upd_same, fun dx nd ne => ⟨rfl, dx, _, upd_same, ?_, ?_, z _ _ ?_ upd_same⟩⟩⟩
  · rw [upd_ne ne]
    exact upd_same
  · rw [← nd, upd_ne ne]
  · intro b o e
    have n1 : b ≠ a := ne_of_none e na
    have nd' : H1 dx = none := by rw [← nd, upd_ne ne]
    have n2 : b ≠ dx := ne_of_none e nd'
    rw [upd_ne n2, del_ne n1, upd_ne n1, upd_ne n2, upd_ne n1]
    exact e
end
end SQ
namespace SQ
open PySem PySem.Spec PyProof.Rows L2 SF
/-- OexC as one truth value -/
def oexcB (K : PySem.W.Frag) (C : Addr) : Bool := match K.lookup C with
  | some ⟨.type "type", _, .cls cd, sl⟩ => (match cd.mro, sl.toList with
    | .ref C' :: bm, [_, _, _, _, some (.builtin n), _] => C' == C && (n == "ValueError.__new__" && (!cd.hasDel && (cd.hasDict && PySem.HandSPX.refsVE bm)))
    | _, _ => false)
  | _ => false
theorem oexcB_ok {K : PySem.W.Frag} {C : Addr} (q : oexcB K C = true) : ∃ nm q N bs bm sn sub ab col dd k0 k1 k2 k3 k5, K.lookup C = some (excClassObj nm q C N bs bm true sn sub ab col dd k0 k1 k2 k3 k5 "ValueError.__new__") ∧ PySem.HandSPX.refsVE bm = true := by
  unfold oexcB at q
  split at q
  · rename_i dd cd sl ho
    split at q
    · rename_i C' bm k0 k1 k2 k3 n k5 hm hs
      simp only [Bool.and_eq_true, beq_iff_eq, Bool.not_eq_true'] at q
      obtain ⟨rfl, rfl, hdel, hdi, ht⟩ := q
      obtain ⟨nm, bs, mro, ns, qn, hd, sn, sub, ab, col, del⟩ := cd
      dsimp only at hm hdel hdi
      subst hm hdel hdi
      have hsl : sl = #[k0, k1, k2, k3, some (.builtin "ValueError.__new__"), k5] := by
        obtain ⟨l⟩ := sl
        simp only at hs
        rw [hs]
      subst hsl
      exact ⟨nm, qn, ns, bs, bm, sn, sub, ab, col, dd, k0, k1, k2, k3, k5, ho, ht⟩
    · cases q
  · cases q
def oexB (K : PySem.W.Frag) (C fI : Addr) : Bool := oexcB K C && (decide (PySem.W.findIn K (.ref C) "__setattr__" = some (some (.builtin "object.__setattr__"))) && (decide (PySem.W.subIn K (.ref C) (.type "BaseException") = some true) && (decide (PySem.W.typeIn K (.ref C) = some (.type "type")) && (PySem.W.keepIn K (.ref C) &&
  (decide (PySem.W.findIn K (.ref C) "__init__" = some (some (.ref fI))) && (decide (PySem.W.typeIn K (.ref fI) = some (.type "function")) && decide (PySem.W.findIn K (.ref C) "given" = some none)))))))
theorem oexB_ok {K : PySem.W.Frag} {C fI : Addr} (h : oexB K C fI = true) : OexC K C ∧ PySem.W.findIn K (.ref C) "__init__" = some (some (.ref fI)) ∧ PySem.W.typeIn K (.ref fI) = some (.type "function") ∧ PySem.W.findIn K (.ref C) "given" = some none := by
  unfold oexB at h
  simp only [Bool.and_eq_true, decide_eq_true_eq] at h
  obtain ⟨h1, h2, h3, h4, h5, h6, h7, h8⟩ := h
  exact ⟨⟨oexcB_ok h1, h2, h3, h4, h5⟩, h6, h7, h8⟩
section
variable {P : Program} {w : World} {K : PySem.W.Frag} {mg : Str → Option Value} {base : Heap} {C fI : Addr} {fd : FuncData} {nm : Str}
/-- what the written part says of an error that keeps what it is given; at i: its __init__ -/
structure OEK (K : PySem.W.Frag) (mg : Str → Option Value) (nm qn : Str) (st : Stmt) (C fI : Addr) (fd : FuncData) : Prop where
  g : mg nm = some (.ref C)
  x : oexB K C fI = true
  F : Fun K "__init__" qn st fI fd
  b : Binds K fd ["self", "given"] []
end
end SQ

/-! Things of many sorts: whole or not, the text of their tuple; defs that refuse them; what is caught then. -/
namespace SQ
open PySem PySem.Spec PyProof.Rows L2 SF SFT LamX
/-- v is a thing, whole or not -/
def IsWh (C : Addr) (H : Hp) (v : V) (b : Bool) : Prop := (∃ T, Dec H v T ∧ isI v = b) ∨ (IsIns C H v ∧ b = false)
theorem isw_if {C : Addr} {H : Hp} {v : V} {b : Bool} {i : Nat} {σ : L2.St} {D : Ends} {ts te : L2.TS} (e : σ[i]? = some (some v)) (h : IsWh C H v b) (q : if (!b) = true then ts D σ H else te D σ H) :
    tIfS (tNot (tB (tCall (spIsW C) [] E0 (tCons (tVar i) tNil)))) ts te D σ H := by
  rcases h with ⟨T, d, rfl⟩ | ⟨d, rfl⟩
  · exact ⟨_, e, _, rfl, .inl ⟨_, d, _, rfl, q⟩⟩
  · exact ⟨_, e, _, rfl, .inr ⟨d, _, rfl, q⟩⟩
/-- making with what is no integer; D: InvalidNumber -/
def spWI (C D : Addr) : Sp := fun vs H _ E => ∃ (p : Addr) (t b : V), vs = [.ref p, t, b] ∧ ((IsWh C H t false ∧ ErrG E D t H) ∨ (∃ i, t = .int i ∧ IsWh C H b false ∧ ErrG E D b H))
/-- over what is no number -/
def spWO (D : Addr) : Sp := fun vs H _ E => ∃ (a v : V), vs = [a, v] ∧ (∃ T, Dec H v T ∧ isI v = false) ∧ ErrG E D v H
/-- power with what is no integer from -20 to 20 -/
def spWP (C D : Addr) : Sp := fun vs H _ E => ∃ (a v : V), vs = [a, v] ∧ (IsWh C H v false ∨ ∃ e, v = .int e ∧ (e < -20 ∨ e > 20)) ∧ ErrG E D v H
/-- reading what is no string -/
def spWR (C D : Addr) : Sp := fun vs H _ E => ∃ v : V, vs = [.ref C, v] ∧ ((∃ T, Dec H v T ∧ T ≠ "str") ∨ IsIns C H v) ∧ ErrG E D v H
/-- ** with what is no integer from -20 to 20 -/
def spWQ (C D : Addr) : Sp := fun vs H _ E => ∃ (a : Addr) (n : Nat) (q : Rat) (e : Int), vs = [.ref a, .int e] ∧ RQ C H a n q ∧ (e < -20 ∨ e > 20) ∧ ErrG E D (.int e) H
/-- repr of a thing's tuple: of built-in things, or of a fraction -/
def rTh (C : Addr) : List V → Hp → VK → Prop := fun xs H Q => SX.rReprS xs H Q ∨ rTupOwn C (spRepr C) E0 xs H Q
theorem mono_rTh {C : Addr} : Mono (rTh C) := fun xs H Q Q' h z => z.imp (SFT.mono_reprS xs H Q Q' h) (fun ⟨p, v, y, e1, e2, e3, e4, q⟩ => ⟨p, v, y, e1, e2, e3, e4, h _ _ q⟩)
theorem callR_or {X : Cx} {f : Value} {r1 r2 : List V → Hp → VK → Prop} (h1 : CallR X f r1) (h2 : CallR X f r2) : CallR X f (fun xs H Q => r1 xs H Q ∨ r2 xs H Q) := fun pins s σ H xs us Q I r h => h.elim (h1 pins s σ H xs us Q I r) (h2 pins s σ H xs us Q I r)
mutual
theorem Sd.extN {H H' : Hp} (s : ExtN H H') : ∀ {v : V} {d : PyData}, SX.Sd H v d → SX.Sd H' v d
  | _, _, .non => .non
  | _, _, .bl b => .bl b
  | _, _, .int i => .int i
  | _, _, .str x => .str x
  | _, _, .lst n e h => .lst n (s _ _ e (fun ps z => by cases z)) (SdAll.extN s h)
  | _, _, .tup e h => .tup (s _ _ e (fun ps z => by cases z)) (SdAll.extN s h)
  | _, _, .dct e h => .dct (s _ _ e (fun ps z => by cases z)) (SdP.extN s h)
theorem SdAll.extN {H H' : Hp} (s : ExtN H H') : ∀ {vs : List V} {ds : List PyData}, SX.SdAll H vs ds → SX.SdAll H' vs ds
  | _, _, .nil => .nil
  | _, _, .cons a b => .cons (Sd.extN s a) (SdAll.extN s b)
theorem SdP.extN {H H' : Hp} (s : ExtN H H') : ∀ {vs : List (Key × V)} {ds : List (PyData × PyData)}, SX.SdP H vs ds → SX.SdP H' vs ds
  | _, _, .nil => .nil
  | _, _, .cons a b => .cons (Sd.extN s a) (SdP.extN s b)
end
/-- the repr of the tuple (v,) is t -/
def TxtV (C : Addr) (H : Hp) (v : V) (t : Str) : Prop := (∃ d : PyData, SX.Sd H v d ∧ (PyData.tuple [d]).showable = true ∧ (PyData.tuple [d]).depth ≤ 8 ∧ (PyData.tuple [d]).shown.length ≤ sizeLine ∧ t = (PyData.tuple [d]).shown) ∨
  ∃ a n q, v = .ref a ∧ RQ C H a n q ∧ n ≤ 1900 ∧ (tupleText [rrepr q]).length ≤ sizeLine ∧ t = tupleText [rrepr q]
theorem TxtV.extN {C : Addr} {H H' : Hp} {v : V} {t : Str} (h : TxtV C H v t) (S : ExtN H H') : TxtV C H' v t := by
  rcases h with ⟨d, a, b⟩ | ⟨a, n, q, e, r, b⟩
  · exact .inl ⟨d, Sd.extN S a, b⟩
  · exact .inr ⟨a, n, q, e, r.extN S, b⟩
theorem TxtV.same {C : Addr} {H H' : Hp} {v : V} {t : Str} (h : TxtV C H v t) (S : Same H H') : TxtV C H' v t := h.extN (ExtN.of S)
theorem rTh_of {C p : Addr} {H : Hp} {v : V} {t : Str} {Q : VK} (h : TxtV C H v t) (ep : H p = some (.tup [v])) (q : Q (.str t) H) : rTh C [.ref p] H Q := by
  rcases h with ⟨d, a, b1, b2, b3, rfl⟩ | ⟨a, n, x, rfl, r, hn, hl, rfl⟩
  · exact .inl ⟨p, .tuple [d], rfl, .tup ep (.cons a .nil), b1, b2, b3, q⟩
  · obtain ⟨⟨dx, ea⟩, _⟩ := id r
    exact .inr ⟨p, .ref a, rrepr x, rfl, ep, ⟨a, dx, _, rfl, ea, fun Q h => ⟨a, n, x, rfl, r, hn, h⟩⟩, hl, q⟩
/-- kinds of things -/
inductive TK where
  | whole (i : Int) | num (n : Nat) (q : Rat) | other
def Thing (C : Addr) (H : Hp) (v : V) (t : Str) : TK → Prop
  | .whole i => v = .int i ∧ TxtV C H v t
  | .num n q => (∃ a, v = .ref a ∧ RQ C H a n q) ∧ TxtV C H v t
  | .other => (∃ T, Dec H v T ∧ isI v = false) ∧ TxtV C H v t
theorem Thing.txt {C : Addr} {H : Hp} {v : V} {t : Str} {k : TK} (h : Thing C H v t k) : TxtV C H v t := by
  cases k <;> exact h.2
theorem Dec.extN {H H' : Hp} (s : ExtN H H') {v : V} {T : String} (d : Dec H v T) : Dec H' v T := by
  cases d with
  | non => exact .non
  | bl b => exact .bl b
  | int i => exact .int i
  | str x => exact .str x
  | lst e => exact .lst (s _ _ e (fun ps z => by cases z))
  | tup e => exact .tup (s _ _ e (fun ps z => by cases z))
  | dK e => exact .dK (s _ _ e (fun ps z => by cases z))
theorem Thing.extN {C : Addr} {H H' : Hp} {v : V} {t : Str} {k : TK} (h : Thing C H v t k) (S : ExtN H H') : Thing C H' v t k := by
  cases k with
  | whole i => exact ⟨h.1, h.2.extN S⟩
  | num n q => obtain ⟨⟨a, e, r⟩, x⟩ := h; exact ⟨⟨a, e, r.extN S⟩, x.extN S⟩
  | other => obtain ⟨⟨T, d, e⟩, x⟩ := h; exact ⟨⟨T, Dec.extN S d, e⟩, x.extN S⟩
theorem Thing.isw {C : Addr} {H : Hp} {v : V} {t : Str} {k : TK} (h : Thing C H v t k) (hk : ∀ i, k ≠ .whole i) : IsWh C H v false := by
  cases k with
  | whole i => exact absurd rfl (hk i)
  | num n q => obtain ⟨⟨a, rfl, r⟩, _⟩ := h; exact .inr ⟨r.ins, rfl⟩
  | other => obtain ⟨⟨T, d, e⟩, _⟩ := h; exact .inl ⟨T, d, e⟩
/-- e is the thing -/
def TV (C : Addr) (G : L2.St → Hp → Prop) (k : TK) (t : Str) (s : Prop) : TE := fun σ H Q => G σ H ∧ s ∧ ∀ v H', Same H H' → Thing C H' v t k → Q v H'
/-- e lets the error of the class at D out, which holds a thing with the text t -/
def TW (E : XK) (D C : Addr) (G : L2.St → Hp → Prop) (t : Str) (s : Prop) : TE := fun σ H _ => G σ H ∧ s ∧ ∀ v H', Same H H' → TxtV C H' v t → ErrG E D v H'
section
variable {X : Cx} {C : Addr} {T : List (Addr × Str)} {G : L2.St → Hp → Prop} {cs : Nat → Addr} {e : Expr} {s : Prop} {t : Str}
theorem pc_wrong {RV : List V → Hp → VK → Prop} {j : Nat} (hj : j < 12) (hgv : ∀ v, given j [("given", v)] = some [v]) (h : PE X e (tLam T (TTc cs RV (rTh C)) (fun E => TW E (cs j) C G t s))) (hG : GN G) : PE X e (TC T G (cnm j) t s) :=
  pe_weak h fun σ H Q ⟨hg, hT, h1, z⟩ => ⟨hT, fun H1 S1 T1 Q0 hQ0 => ⟨hG _ _ _ hg S1, h1, fun v H2 S2 tx dx H3 S3 ex => ⟨j, [("given", v)], [v], hj, rfl, .inr ⟨dx, rfl, ex⟩, hgv v, fun p H4 S4 ep =>
    rTh_of ((tx.same S3).same S4) ep ⟨_, rfl, fun L H5 S5 nL eL => z L H5 (S1.trans (ExtN.of fun b o z => S5 b o (S4 b o (S3 b o (S2 b o z))))) (T1.ext fun b o z => S5 b o (S4 b o (S3 b o (S2 b o z)))) eL⟩⟩⟩⟩
end
end SQ

/-! repr(None). -/
namespace SK
open PySem PySem.Spec PyProof.Rows L2 SF SQ
section
variable {X : Cx}
theorem call_reprN : CallR X (.builtin "repr") (fun xs H Q => xs = [V.non] ∧ Q (.str ("None" : PySem.Str)) H) := by
  intro pins s σ H xs us Q I r h
  obtain ⟨rfl, q⟩ := h
  obtain ⟨u, rfl, ru⟩ := r.one
  cases (show u = Value.none from ru)
  exact PySem.P.repr_of_none ⟨.str _, H, I.tok _, ⟨_, rfl⟩, q⟩
end
theorem ixT {X : Cx} {K : PySem.W.Frag} (h : X.K = K) : IxR X (rIxT K) := by
  subst h
  exact ix_tup
end SK
namespace SK
open PySem PySem.Spec PyProof.Rows L2
def isStr (K : PySem.W.Frag) (x y : PySem.Str) : Bool := match PySem.W.nsIn K mainGlobals x with
  | some (some (.str z _)) => decide (z = y)
  | _ => false
theorem isStr_ok {K : PySem.W.Frag} {h : Heap} {mg : PySem.Str → Option Value} (X : K.In h) (G : h.Ns mainGlobals mg) {x y : PySem.Str} (c : isStr K x y = true) : ∃ t, mg x = some (.str y t) := by
  unfold isStr at c
  cases e : PySem.W.nsIn K mainGlobals x with
  | none => rw [e] at c; cases c
  | some r =>
    cases r with
    | none => rw [e] at c; cases c
    | some v =>
      rw [e] at c
      cases v with
      | str z t =>
        have c : decide (z = y) = true := c
        have q := of_decide_eq_true c
        subst q
        exact ⟨t, PySem.W.mg_of X G e⟩
      | _ => cases c
end SK

namespace T07
open PySem PySem.Spec PyProof.Rows L2 SF SQ
def fx0 (K : PySem.W.Frag) : List Bool := [decide (PySem.W.nsIn K mainGlobals "Ratio" = some (some (.ref (He.ga K "Ratio")))),
  decide (PySem.W.nsIn K mainGlobals "is_whole" = some (some (.ref (He.ga K "is_whole")))),
  decide (PySem.W.nsIn K mainGlobals "is_number" = some (some (.ref (He.ga K "is_number")))),
  decide (PySem.W.nsIn K mainGlobals "as_ratio" = some (some (.ref (He.ga K "as_ratio")))),
  decide (PySem.W.nsIn K mainGlobals "_is_text" = some (some (.ref (He.ga K "_is_text")))),
  decide (PySem.W.nsIn K mainGlobals "_is_positive_text" = some (some (.ref (He.ga K "_is_positive_text")))),
  decide (PySem.W.findIn K (.ref (He.ga K "Ratio")) "top" = some (some (.ref (He.ma K (He.ga K "Ratio") "top")))),
  decide (PySem.W.specialIn K (.ref (He.ma K (He.ga K "Ratio") "top")) "__get__" = some (some (.builtin "property.__get__"))),
  decide (PySem.W.takesIn K (.ref (He.ma K (He.ga K "Ratio") "top")) = some true),
  decide (PySem.W.recIn K (He.ma K (He.ga K "Ratio") "top") "property" = some (.ref (SJ.recF K (He.ma K (He.ga K "Ratio") "top") "property") :: SJ.recR K (He.ma K (He.ga K "Ratio") "top") "property")),
  decide (PySem.W.findIn K (.ref (He.ga K "Ratio")) "bottom" = some (some (.ref (He.ma K (He.ga K "Ratio") "bottom")))),
  decide (PySem.W.specialIn K (.ref (He.ma K (He.ga K "Ratio") "bottom")) "__get__" = some (some (.builtin "property.__get__"))),
  decide (PySem.W.takesIn K (.ref (He.ma K (He.ga K "Ratio") "bottom")) = some true),
  decide (PySem.W.recIn K (He.ma K (He.ga K "Ratio") "bottom") "property" = some (.ref (SJ.recF K (He.ma K (He.ga K "Ratio") "bottom") "property") :: SJ.recR K (He.ma K (He.ga K "Ratio") "bottom") "property")),
  decide (PySem.W.findIn K (.ref (He.ga K "Ratio")) "__eq__" = some (some (.ref (He.ma K (He.ga K "Ratio") "__eq__")))),
  PySem.W.isFn K (.ref (He.ma K (He.ga K "Ratio") "__eq__")),
  decide (PySem.W.findIn K (.ref (He.ga K "Ratio")) "__str__" = some (some (.ref (He.ma K (He.ga K "Ratio") "__str__")))),
  PySem.W.isFn K (.ref (He.ma K (He.ga K "Ratio") "__str__")),
  decide (PySem.W.findIn K (.ref (He.ga K "Ratio")) "__repr__" = some (some (.ref (He.ma K (He.ga K "Ratio") "__repr__")))),
  PySem.W.isFn K (.ref (He.ma K (He.ga K "Ratio") "__repr__"))]
def fx1 (K : PySem.W.Frag) : List Bool := [decide (PySem.W.findIn K (.ref (He.ga K "Series")) "__len__" = some (some (.ref (He.ma K (He.ga K "Series") "__len__")))),
  PySem.W.isFn K (.ref (He.ma K (He.ga K "Series") "__len__")),
  decide (PySem.W.findIn K (.ref (He.ga K "Series")) "__eq__" = some (some (.ref (He.ma K (He.ga K "Series") "__eq__")))),
  PySem.W.isFn K (.ref (He.ma K (He.ga K "Series") "__eq__")),
  decide (PySem.W.findIn K (.ref (He.ga K "Series")) "__str__" = some (some (.ref (He.ma K (He.ga K "Series") "__str__")))),
  PySem.W.isFn K (.ref (He.ma K (He.ga K "Series") "__str__")),
  decide (PySem.W.findIn K (.ref (He.ga K "Series")) "__repr__" = some (some (.ref (He.ma K (He.ga K "Series") "__repr__")))),
  PySem.W.isFn K (.ref (He.ma K (He.ga K "Series") "__repr__")),
  decide (PySem.W.findIn K (.ref (He.ga K "Series")) "entries" = some (some (.ref (He.ma K (He.ga K "Series") "entries")))),
  decide (PySem.W.specialIn K (.ref (He.ma K (He.ga K "Series") "entries")) "__get__" = some (some (.builtin "property.__get__"))),
  decide (PySem.W.takesIn K (.ref (He.ma K (He.ga K "Series") "entries")) = some true),
  decide (PySem.W.recIn K (He.ma K (He.ga K "Series") "entries") "property" = some (.ref (SJ.recF K (He.ma K (He.ga K "Series") "entries") "property") :: SJ.recR K (He.ma K (He.ga K "Series") "entries") "property")),
  decide (PySem.W.findIn K (.ref (He.ga K "Series")) "missing" = some (some (.ref (He.ma K (He.ga K "Series") "missing")))),
  decide (PySem.W.specialIn K (.ref (He.ma K (He.ga K "Series") "missing")) "__get__" = some (some (.builtin "property.__get__"))),
  decide (PySem.W.takesIn K (.ref (He.ma K (He.ga K "Series") "missing")) = some true),
  decide (PySem.W.recIn K (He.ma K (He.ga K "Series") "missing") "property" = some (.ref (SJ.recF K (He.ma K (He.ga K "Series") "missing") "property") :: SJ.recR K (He.ma K (He.ga K "Series") "missing") "property")),
  decide (PySem.W.nsIn K mainGlobals "_read_entry" = some (some (.ref (He.ga K "_read_entry")))),
  decide (PySem.W.nsIn K mainGlobals "_law_cell" = some (some (.ref (He.ga K "_law_cell")))),
  decide (PySem.W.nsIn K mainGlobals "_law_source" = some (some (.ref (He.ga K "_law_source")))),
  decide (PySem.W.nsIn K mainGlobals "_law_draw" = some (some (.ref (He.ga K "_law_draw"))))]
def fx2 (K : PySem.W.Frag) : List Bool := [decide (PySem.W.nsIn K mainGlobals "_law_common" = some (some (.ref (He.ga K "_law_common")))),
  decide (PySem.W.nsIn K mainGlobals "_law_lowest" = some (some (.ref (He.ga K "_law_lowest")))),
  decide (PySem.W.nsIn K mainGlobals "_law_whole" = some (some (.ref (He.ga K "_law_whole")))),
  decide (PySem.W.nsIn K mainGlobals "_law_pair" = some (some (.ref (He.ga K "_law_pair")))),
  decide (PySem.W.nsIn K mainGlobals "_law_number_text" = some (some (.ref (He.ga K "_law_number_text")))),
  decide (PySem.W.nsIn K mainGlobals "_law_entry" = some (some (.ref (He.ga K "_law_entry")))),
  decide (PySem.W.nsIn K mainGlobals "_law_row" = some (some (.ref (He.ga K "_law_row")))),
  decide (PySem.W.nsIn K mainGlobals "_law_given" = some (some (.ref (He.ga K "_law_given")))),
  decide (PySem.W.nsIn K mainGlobals "_law_written" = some (some (.ref (He.ga K "_law_written")))),
  decide (PySem.W.nsIn K mainGlobals "_law_shown_right" = some (some (.ref (He.ga K "_law_shown_right")))),
  decide (PySem.W.nsIn K mainGlobals "_law_other" = some (some (.ref (He.ga K "_law_other")))),
  decide (PySem.W.nsIn K mainGlobals "_law_right" = some (some (.ref (He.ga K "_law_right")))),
  decide (PySem.W.nsIn K mainGlobals "law" = some (some (.ref (He.ga K "law")))),
  SJ.clsB K (He.ga K "Ratio") "read",
  decide (PySem.W.recIn K (SJ.clsP K (He.ga K "Ratio") "read") "classmethod" = some (.ref (SJ.recF K (SJ.clsP K (He.ga K "Ratio") "read") "classmethod") :: SJ.recR K (SJ.clsP K (He.ga K "Ratio") "read") "classmethod")),
  PySem.W.fnIn K (SJ.recF K (SJ.clsP K (He.ga K "Ratio") "read") "classmethod"),
  PySem.W.readsIn K (He.ga K "Ratio") (.type "type"),
  decide (PySem.W.specialIn K (.ref (He.ga K "Ratio")) "__getattribute__" = some (some (.builtin "type.__getattribute__"))),
  SJ.clsB K (He.ga K "Series") "read",
  decide (PySem.W.recIn K (SJ.clsP K (He.ga K "Series") "read") "classmethod" = some (.ref (SJ.recF K (SJ.clsP K (He.ga K "Series") "read") "classmethod") :: SJ.recR K (SJ.clsP K (He.ga K "Series") "read") "classmethod"))]
def fx3 (K : PySem.W.Frag) : List Bool := [PySem.W.fnIn K (SJ.recF K (SJ.clsP K (He.ga K "Series") "read") "classmethod"),
  PySem.W.readsIn K (He.ga K "Series") (.type "type"),
  decide (PySem.W.specialIn K (.ref (He.ga K "Series")) "__getattribute__" = some (some (.builtin "type.__getattribute__"))),
  decide (PySem.W.findIn K (.ref (He.ga K "Ratio")) "__init__" = some (some (.ref (He.ma K (He.ga K "Ratio") "__init__")))),
  PySem.W.isFn K (.ref (He.ma K (He.ga K "Ratio") "__init__")),
  decide (PySem.W.findIn K (.ref (He.ga K "Ratio")) "__ne__" = some (some (.builtin "object.__ne__"))),
  PySem.W.makesIn K (He.ga K "Ratio"),
  PySem.W.keepIn K (.ref (He.ga K "Ratio")),
  PySem.W.plainGet K (He.ga K "Ratio") Str.empty,
  PySem.W.hasDictIn K (He.ga K "Ratio"),
  PySem.W.plainOver K (He.ga K "Ratio"),
  decide (PySem.W.findIn K (.ref (He.ga K "Ratio")) "__setattr__" = some (some (.builtin "object.__setattr__"))),
  decide (PySem.W.findIn K (.ref (He.ga K "Ratio")) "_top" = some none),
  decide (PySem.W.findIn K (.ref (He.ga K "Ratio")) "_bottom" = some none),
  decide (PySem.W.kitOne K (.type "int") (.ref (He.ga K "Ratio")) = some false),
  decide (PySem.W.kitOne K (.type "bool") (.ref (He.ga K "Ratio")) = some false),
  decide (PySem.W.kitOne K (.type "str") (.ref (He.ga K "Ratio")) = some false),
  decide (PySem.W.kitOne K (.type "NoneType") (.ref (He.ga K "Ratio")) = some false),
  decide (PySem.W.kitOne K (.type "list") (.ref (He.ga K "Ratio")) = some false),
  decide (PySem.W.kitOne K (.type "tuple") (.ref (He.ga K "Ratio")) = some false)]
def fx4 (K : PySem.W.Frag) : List Bool := [decide (PySem.W.kitOne K (.type "dict") (.ref (He.ga K "Ratio")) = some false),
  decide (PySem.W.kitOne K (.ref (He.ga K "Ratio")) (.ref (He.ga K "Ratio")) = some true),
  decide (PySem.W.kitOne K (.ref (He.ga K "Ratio")) (.type "int") = some false),
  decide (PySem.W.findIn K (.ref (He.ga K "Ratio")) "__class__" = some (some (.builtin "object.__class__"))),
  decide (PySem.W.specialIn K (.builtin "object.__class__") "__get__" = some (some (.builtin "getset_descriptor.__get__"))),
  decide (PySem.W.takesIn K (.builtin "object.__class__") = some true),
  decide (PySem.W.mroIn K (He.ga K "Ratio") (.type "object") = some true),
  decide (PySem.W.nsIn K mainGlobals "gcd" = some (some (.builtin "math.gcd"))),
  decide (PySem.W.subIn K (.type "int") (.ref (He.ga K "Ratio")) = some false),
  decide (PySem.W.nsIn K mainGlobals "Series" = some (some (.ref (He.ga K "Series")))),
  decide (PySem.W.findIn K (.ref (He.ga K "Series")) "__init__" = some (some (.ref (He.ma K (He.ga K "Series") "__init__")))),
  PySem.W.isFn K (.ref (He.ma K (He.ga K "Series") "__init__")),
  PySem.W.makesIn K (He.ga K "Series"),
  PySem.W.keepIn K (.ref (He.ga K "Series")),
  PySem.W.plainGet K (He.ga K "Series") Str.empty,
  PySem.W.hasDictIn K (He.ga K "Series"),
  PySem.W.plainOver K (He.ga K "Series"),
  decide (PySem.W.findIn K (.ref (He.ga K "Series")) "__setattr__" = some (some (.builtin "object.__setattr__"))),
  decide (PySem.W.findIn K (.ref (He.ga K "Series")) "_entries" = some none),
  decide (PySem.W.kitOne K (.type "int") (.ref (He.ga K "Series")) = some false)]
def fx5 (K : PySem.W.Frag) : List Bool := [decide (PySem.W.subIn K (.ref (He.ga K "Series")) (.type "int") = some false),
  decide (PySem.W.subIn K (.type "int") (.ref (He.ga K "Series")) = some false),
  decide (PySem.W.subIn K (.ref (He.ga K "Ratio")) (.type "int") = some false),
  decide (PySem.W.subIn K (.type "int") (.ref (He.ga K "Ratio")) = some false),
  decide (PySem.W.kitOne K (.type "bool") (.ref (He.ga K "Series")) = some false),
  decide (PySem.W.subIn K (.ref (He.ga K "Series")) (.type "bool") = some false),
  decide (PySem.W.subIn K (.type "bool") (.ref (He.ga K "Series")) = some false),
  decide (PySem.W.subIn K (.ref (He.ga K "Ratio")) (.type "bool") = some false),
  decide (PySem.W.subIn K (.type "bool") (.ref (He.ga K "Ratio")) = some false),
  decide (PySem.W.kitOne K (.type "str") (.ref (He.ga K "Series")) = some false),
  decide (PySem.W.subIn K (.ref (He.ga K "Series")) (.type "str") = some false),
  decide (PySem.W.subIn K (.type "str") (.ref (He.ga K "Series")) = some false),
  decide (PySem.W.subIn K (.ref (He.ga K "Ratio")) (.type "str") = some false),
  decide (PySem.W.subIn K (.type "str") (.ref (He.ga K "Ratio")) = some false),
  decide (PySem.W.kitOne K (.type "NoneType") (.ref (He.ga K "Series")) = some false),
  decide (PySem.W.subIn K (.ref (He.ga K "Series")) (.type "NoneType") = some false),
  decide (PySem.W.subIn K (.type "NoneType") (.ref (He.ga K "Series")) = some false),
  decide (PySem.W.subIn K (.ref (He.ga K "Ratio")) (.type "NoneType") = some false),
  decide (PySem.W.subIn K (.type "NoneType") (.ref (He.ga K "Ratio")) = some false),
  decide (PySem.W.kitOne K (.type "list") (.ref (He.ga K "Series")) = some false)]
def fx6 (K : PySem.W.Frag) : List Bool := [decide (PySem.W.subIn K (.ref (He.ga K "Series")) (.type "list") = some false),
  decide (PySem.W.subIn K (.type "list") (.ref (He.ga K "Series")) = some false),
  decide (PySem.W.subIn K (.ref (He.ga K "Ratio")) (.type "list") = some false),
  decide (PySem.W.subIn K (.type "list") (.ref (He.ga K "Ratio")) = some false),
  decide (PySem.W.kitOne K (.type "tuple") (.ref (He.ga K "Series")) = some false),
  decide (PySem.W.subIn K (.ref (He.ga K "Series")) (.type "tuple") = some false),
  decide (PySem.W.subIn K (.type "tuple") (.ref (He.ga K "Series")) = some false),
  decide (PySem.W.subIn K (.ref (He.ga K "Ratio")) (.type "tuple") = some false),
  decide (PySem.W.subIn K (.type "tuple") (.ref (He.ga K "Ratio")) = some false),
  decide (PySem.W.kitOne K (.type "dict") (.ref (He.ga K "Series")) = some false),
  decide (PySem.W.subIn K (.ref (He.ga K "Series")) (.type "dict") = some false),
  decide (PySem.W.subIn K (.type "dict") (.ref (He.ga K "Series")) = some false),
  decide (PySem.W.subIn K (.ref (He.ga K "Ratio")) (.type "dict") = some false),
  decide (PySem.W.subIn K (.type "dict") (.ref (He.ga K "Ratio")) = some false),
  decide (PySem.W.kitOne K (.ref (He.ga K "Series")) (.ref (He.ga K "Series")) = some true),
  decide (PySem.W.findIn K (.ref (He.ga K "Series")) "__class__" = some (some (.builtin "object.__class__"))),
  decide (PySem.W.mroIn K (He.ga K "Series") (.type "object") = some true),
  decide (PySem.W.findIn K (.ref (He.ga K "Series")) "__ne__" = some (some (.builtin "object.__ne__"))),
  decide (PySem.W.findIn K (.ref (He.ga K "Series")) "__bool__" = some none),
  SK.isStr K "GAP" "_"]
def fx7 (K : PySem.W.Frag) : List Bool := [decide (PySem.W.nsIn K mainGlobals "InvalidText" = some (some (.ref (He.ga K "InvalidText")))),
  decide (PySem.W.nsIn K mainGlobals "len" = some none),
  decide (PySem.W.nsIn K mainGlobals "int" = some none),
  decide (PySem.W.nsIn K mainGlobals "abs" = some none),
  decide (PySem.W.nsIn K mainGlobals "divmod" = some none),
  decide (PySem.W.nsIn K mainGlobals "range" = some none),
  decide (PySem.W.nsIn K mainGlobals "max" = some none),
  decide (PySem.W.nsIn K mainGlobals "min" = some none),
  decide (PySem.W.nsIn K mainGlobals "all" = some none),
  decide (PySem.W.nsIn K mainGlobals "repr" = some none),
  decide (PySem.W.nsIn K mainGlobals "isinstance" = some none),
  decide (PySem.W.nsIn K mainGlobals "bool" = some none),
  decide (PySem.W.nsIn K mainGlobals "str" = some none),
  decide (PySem.W.nsIn K mainGlobals "enumerate" = some none),
  decide (PySem.W.nsIn K mainGlobals "tuple" = some none),
  decide (PySem.W.nsIn K mainGlobals "list" = some none),
  SFY.tabsB K [] []]
def exJ (K : PySem.W.Frag) : Bool := (fx0 K).all id && ((fx1 K).all id && ((fx2 K).all id && ((fx3 K).all id && ((fx4 K).all id && ((fx5 K).all id && ((fx6 K).all id && ((fx7 K).all id)))))))
def dj0 : SJ.DJ := ⟨fun K => (He.ga K "is_whole"), "is_whole", "is_whole", defArgs sIsW, defBody sIsW, defScope sIsW, []⟩
def dj1 : SJ.DJ := ⟨fun K => (He.ga K "is_number"), "is_number", "is_number", defArgs sIsN, defBody sIsN, defScope sIsN, []⟩
def dj2 : SJ.DJ := ⟨fun K => (He.ga K "as_ratio"), "as_ratio", "as_ratio", defArgs sAs, defBody sAs, defScope sAs, []⟩
def dj3 : SJ.DJ := ⟨fun K => (He.ga K "_is_text"), "_is_text", "_is_text", defArgs sIsT, defBody sIsT, defScope sIsT, []⟩
def dj4 : SJ.DJ := ⟨fun K => (He.ga K "_is_positive_text"), "_is_positive_text", "_is_positive_text", defArgs sIsP, defBody sIsP, defScope sIsP, []⟩
def dj5 : SJ.DJ := ⟨fun K => (SJ.recF K (He.ma K (He.ga K "Ratio") "top") "property"), "top", "Ratio.top", defArgs sTop, defBody sTop, defScope sTop, []⟩
def dj6 : SJ.DJ := ⟨fun K => (SJ.recF K (He.ma K (He.ga K "Ratio") "bottom") "property"), "bottom", "Ratio.bottom", defArgs sBot, defBody sBot, defScope sBot, []⟩
def dj7 : SJ.DJ := ⟨fun K => (He.ma K (He.ga K "Ratio") "__eq__"), "__eq__", "Ratio.__eq__", defArgs sEq, defBody sEq, defScope sEq, []⟩
def dj8 : SJ.DJ := ⟨fun K => (He.ma K (He.ga K "Ratio") "__str__"), "__str__", "Ratio.__str__", defArgs sStr, defBody sStr, defScope sStr, []⟩
def dj9 : SJ.DJ := ⟨fun K => (He.ma K (He.ga K "Ratio") "__repr__"), "__repr__", "Ratio.__repr__", defArgs sRepr, defBody sRepr, defScope sRepr, []⟩
def dj10 : SJ.DJ := ⟨fun K => (He.ma K (He.ga K "Series") "__len__"), "__len__", "Series.__len__", defArgs sSLen, defBody sSLen, defScope sSLen, []⟩
def dj11 : SJ.DJ := ⟨fun K => (He.ma K (He.ga K "Series") "__eq__"), "__eq__", "Series.__eq__", defArgs sSEq, defBody sSEq, defScope sSEq, []⟩
def dj12 : SJ.DJ := ⟨fun K => (He.ma K (He.ga K "Series") "__str__"), "__str__", "Series.__str__", defArgs sSStr, defBody sSStr, defScope sSStr, []⟩
def dj13 : SJ.DJ := ⟨fun K => (He.ma K (He.ga K "Series") "__repr__"), "__repr__", "Series.__repr__", defArgs sSRepr, defBody sSRepr, defScope sSRepr, []⟩
def dj14 : SJ.DJ := ⟨fun K => (SJ.recF K (He.ma K (He.ga K "Series") "entries") "property"), "entries", "Series.entries", defArgs sSEnt, defBody sSEnt, defScope sSEnt, []⟩
def dj15 : SJ.DJ := ⟨fun K => (SJ.recF K (He.ma K (He.ga K "Series") "missing") "property"), "missing", "Series.missing", defArgs sSMis, defBody sSMis, defScope sSMis, []⟩
def dj16 : SJ.DJ := ⟨fun K => (He.ga K "_read_entry"), "_read_entry", "_read_entry", defArgs sREnt, defBody sREnt, defScope sREnt, []⟩
def dj17 : SJ.DJ := ⟨fun K => (He.ga K "_law_cell"), "_law_cell", "_law_cell", defArgs sCell, defBody sCell, defScope sCell, []⟩
def dj18 : SJ.DJ := ⟨fun K => (He.ga K "_law_source"), "_law_source", "_law_source", defArgs sSrc, defBody sSrc, defScope sSrc, []⟩
def dj19 : SJ.DJ := ⟨fun K => (He.ga K "_law_draw"), "_law_draw", "_law_draw", defArgs sDraw, defBody sDraw, defScope sDraw, []⟩
def dj20 : SJ.DJ := ⟨fun K => (He.ga K "_law_common"), "_law_common", "_law_common", defArgs sCom, defBody sCom, defScope sCom, []⟩
def dj21 : SJ.DJ := ⟨fun K => (He.ga K "_law_lowest"), "_law_lowest", "_law_lowest", defArgs sLow, defBody sLow, defScope sLow, []⟩
def dj22 : SJ.DJ := ⟨fun K => (He.ga K "_law_whole"), "_law_whole", "_law_whole", defArgs sWho, defBody sWho, defScope sWho, []⟩
def dj23 : SJ.DJ := ⟨fun K => (He.ga K "_law_pair"), "_law_pair", "_law_pair", defArgs sPair, defBody sPair, defScope sPair, []⟩
def dj24 : SJ.DJ := ⟨fun K => (He.ga K "_law_number_text"), "_law_number_text", "_law_number_text", defArgs sNum, defBody sNum, defScope sNum, []⟩
def dj25 : SJ.DJ := ⟨fun K => (He.ga K "_law_entry"), "_law_entry", "_law_entry", defArgs sEnt, defBody sEnt, defScope sEnt, []⟩
def dj26 : SJ.DJ := ⟨fun K => (He.ga K "_law_row"), "_law_row", "_law_row", defArgs sRow, defBody sRow, defScope sRow, []⟩
def dj27 : SJ.DJ := ⟨fun K => (He.ga K "_law_given"), "_law_given", "_law_given", defArgs sGiv, defBody sGiv, defScope sGiv, []⟩
def dj28 : SJ.DJ := ⟨fun K => (He.ga K "_law_written"), "_law_written", "_law_written", defArgs sWri, defBody sWri, defScope sWri, []⟩
def dj29 : SJ.DJ := ⟨fun K => (He.ga K "_law_shown_right"), "_law_shown_right", "_law_shown_right", defArgs sSho, defBody sSho, defScope sSho, []⟩
def dj30 : SJ.DJ := ⟨fun K => (He.ga K "_law_other"), "_law_other", "_law_other", defArgs sOth, defBody sOth, defScope sOth, []⟩
def dj31 : SJ.DJ := ⟨fun K => (He.ga K "_law_right"), "_law_right", "_law_right", defArgs sRight, defBody sRight, defScope sRight, []⟩
def dj32 : SJ.DJ := ⟨fun K => (He.ga K "law"), "law", "law", defArgs sLaw, defBody sLaw, defScope sLaw, []⟩
def dj33 : SJ.DJ := ⟨fun K => (SJ.recF K (SJ.clsP K (He.ga K "Ratio") "read") "classmethod"), "read", "Ratio.read", defArgs sRd, defBody sRd, defScope sRd, []⟩
def dj34 : SJ.DJ := ⟨fun K => (SJ.recF K (SJ.clsP K (He.ga K "Series") "read") "classmethod"), "read", "Series.read", defArgs sSR, defBody sSR, defScope sSR, []⟩
def dj35 : SJ.DJ := ⟨fun K => (He.ma K (He.ga K "Ratio") "__init__"), "__init__", "Ratio.__init__", defArgs sIni, defBody sIni, defScope sIni, [.int 1]⟩
def dj36 : SJ.DJ := ⟨fun K => (He.ma K (He.ga K "Series") "__init__"), "__init__", "Series.__init__", defArgs sSI, defBody sSI, defScope sSI, []⟩
def fnJ : List SJ.DJ := [dj0, dj1, dj2, dj3, dj4, dj5, dj6, dj7, dj8, dj9, dj10, dj11, dj12, dj13, dj14, dj15, dj16, dj17, dj18, dj19, dj20, dj21, dj22, dj23, dj24, dj25, dj26, dj27, dj28, dj29, dj30, dj31, dj32, dj33, dj34, dj35, dj36]
def lamJ : List (PySem.W.Frag → Addr) := []
def ls0 : List PySem.Str := ["_wall", "GivenError", "InvalidNumber", "InvalidText", "InvalidCount", "InvalidEntries", "AnswerError", "DividedByZero", "MOST_POWER", "is_whole", "is_number", "Ratio", "as_ratio", "_ratio_sum", "_product", "_inverse", "_floor", "_remainder", "_whole_power", "_is_text"]
def ls1 : List PySem.Str := ["_is_positive_text", "GAP", "Series", "_read_entry", "_law_cell", "_law_source", "_law_draw", "_law_common", "_law_lowest", "_law_whole", "_law_pair", "_law_number_text", "_law_entry", "_law_row", "_law_given", "_law_written", "_law_shown_right", "_law_other", "_law_right"]
def looseJ : List PySem.Str := ls0 ++ (ls1)
def R1 : PySem.W.OpenRow := PySem.W.OpenLaw.row PySem.Challenge.rw_seriesforms_k07_series_made
def hkJ : PySem.W.Hook := SJ.hookJ 6 fnJ exJ lamJ
def obJ (s : PySem.W.SharedT) : SJ.AlJ := SJ.obsJ 6 fnJ exJ lamJ (HeadRun.getT s)
theorem ob_eqJ (s : PySem.W.SharedT) : obJ s = hkJ.obs s.abs := SJ.obsJ_eq s
set_option maxHeartbeats 0 in
theorem run1 (w : World) : (HeadRun.wholeF (fun p => HeadRun.stepQ (HeadRun.denQ HeadRun.tabQ) p w) HeadRun.fenceQ 20000 R1.prog).map (fun x => HeadRun.looksF R1.prog x.1.heap x.2.abs) = some true := by kernel_rfl
set_option maxHeartbeats 0 in
theorem run2 (w : World) : (HeadRun.wholeF (fun p => HeadRun.stepQ (HeadRun.denQ HeadRun.tabQ) p w) HeadRun.fenceQ 20000 R1.prog).map (fun x => HeadRun.seenQ (PySem.W.view R1.prog [0, 44]) looseJ (importedModules R1.prog.main.body) (fun s => PySem.W.xlAt (PySem.W.view R1.prog [0, 44]) [] s && PySem.W.recOk R1.toRowW.records s) x.2.abs) = some (PySem.W.openGood (PySem.W.view R1.prog [0, 44]) looseJ) := by kernel_rfl
set_option maxHeartbeats 0 in
theorem run3 (w : World) : (HeadRun.wholeF (fun p => HeadRun.stepQ (HeadRun.denQ HeadRun.tabQ) p w) HeadRun.fenceQ 20000 R1.prog).map (fun x => obJ x.2) = some (SJ.valJ fnJ lamJ) := by kernel_rfl
theorem runJ (w : World) : HeadRun.RunEqI R1 (PySem.W.view R1.prog [0, 44]) hkJ obJ 20000 looseJ w := SJ.map3 (run1 w) (run2 w) (run3 w)
end T07

/-! The class of fractions, def by def. -/
namespace T07
open PySem PySem.Spec PyProof.Rows L2 SF SQ
section
variable {P : Program} {w : World} {K : PySem.W.Frag} {mg : Str → Option Value} {base : Heap} {C : Addr}
theorem ok_isW (T : Tx K mg C) : FnOk P w K mg base CX0 1 T.aIsW T.dIsW ["value"] (spIsW C) := by
  refine T.FIsW.ok scIsW (fun vs H Q E h => ?_) (fun cdv A outer s H vs Q E hr h => ?_)
  · obtain ⟨v, rfl, _⟩ := h
    rfl
  · obtain ⟨v, rfl, h⟩ := h
    refine ⟨_, (pss_one (ps_ret (pe_and (pe_callB call_isi (by rfl) T.rc.isi (by decide +kernel) (pa_cons (pv 0) (pa_cons (pe_bltn (v := .ty "int") (u := .type "int") (by rfl) T.rc.int_ (by decide +kernel) rfl) pa_nil))) (pe_one (pe_not (pe_callB call_isi (by rfl) T.rc.isi (by decide +kernel) (pa_cons (pv 0) (pa_cons (pe_bltn (v := .ty "bool") (u := .type "bool") (by rfl) T.rc.bool_ (by decide +kernel) rfl) pa_nil)))))))), ?_⟩
    rcases h with ⟨t, d, q⟩ | ⟨⟨a, dx, fs, rfl, ha⟩, q⟩
    · have d' := d
      cases d with
      | non => exact ⟨_, rfl, _, _, _, _, false, rfl, .ty _, d'.typ, kit_ty (by decide +kernel), false, rfl, iteF q⟩
      | bl b => exact ⟨_, rfl, _, _, _, _, true, rfl, .ty _, d'.typ, kit_ty (by decide +kernel), true, rfl, iteT ⟨_, rfl, _, _, _, _, true, rfl, .ty _, d'.typ, kit_ty (by decide +kernel), true, rfl, q⟩⟩
      | int i => exact ⟨_, rfl, _, _, _, _, true, rfl, .ty _, d'.typ, kit_ty (by decide +kernel), true, rfl, iteT ⟨_, rfl, _, _, _, _, false, rfl, .ty _, d'.typ, kit_ty (by decide +kernel), false, rfl, q⟩⟩
      | str x => exact ⟨_, rfl, _, _, _, _, false, rfl, .ty _, d'.typ, kit_ty (by decide +kernel), false, rfl, iteF q⟩
      | lst e => exact ⟨_, rfl, _, _, _, _, false, rfl, .ty _, d'.typ, kit_ty (by decide +kernel), false, rfl, iteF q⟩
      | tup e => exact ⟨_, rfl, _, _, _, _, false, rfl, .ty _, d'.typ, kit_ty (by decide +kernel), false, rfl, iteF q⟩
      | dK e => exact ⟨_, rfl, _, _, _, _, false, rfl, .ty _, d'.typ, kit_ty (by decide +kernel), false, rfl, iteF q⟩
    · exact ⟨_, rfl, _, _, _, _, false, rfl, .ty _, .base (.ins ha T.rc.cl T.rc.ca T.rc.cn T.rc.ct T.rc.cm), T.kI, false, rfl, iteF q⟩
theorem ok_isN (T : Tx K mg C) : FnOk P w K mg base CX0 2 T.aIsN T.dIsN ["value"] (spIsN C) := by
  have GW : FnOk P w K mg base CX0 1 T.aIsW T.dIsW ["value"] (spIsW C) := ok_isW T
  refine T.FIsN.ok scIsN (fun vs H Q E h => ?_) (fun cdv A outer s H vs Q E hr h => ?_)
  · obtain ⟨v, rfl, _⟩ := h
    rfl
  · obtain ⟨v, rfl, h⟩ := h
    refine ⟨_, (pss_one (ps_ret (pe_or (pe_callB call_isi (by rfl) T.rc.isi (by decide +kernel) (pa_cons (pv 0) (pa_cons (pe_glob (v := .ref C) (by rfl) T.rc.mgC rfl) pa_nil))) (pe_one (pe_call GW hr (by rfl) T.gIsW T.FIsW.kp T.bIsW .nil pass0 (pa_cons (pv 0) pa_nil)))))), ?_⟩
    rcases h with ⟨t, d, q⟩ | ⟨⟨a, dx, fs, rfl, ha⟩, q⟩
    · exact ⟨_, rfl, v, .ref C, .type t, .ref C, false, rfl, .own C, d.typ, T.rc.kB _ d.mem, false, rfl, iteF ⟨_, rfl, v, rfl, .inl ⟨t, d, q⟩⟩⟩
    · exact ⟨_, rfl, .ref a, .ref C, .ref C, .ref C, true, rfl, .own C, .base (.ins ha T.rc.cl T.rc.ca T.rc.cn T.rc.ct T.rc.cm), T.rc.kC, true, rfl, iteT q⟩
theorem ok_init (T : Tx K mg C) : FnOk P w K mg base CX0 2 T.aIni T.dIni ["self", "top", "bottom"] (spInit C) := by
  have GW : FnOk P w K mg base CX0 1 T.aIsW T.dIsW ["value"] (spIsW C) := ok_isW T
  refine T.FIni.ok scIni (fun vs H Q E h => ?_) (fun cdv A outer s H vs Q E hr h => ?_)
  · obtain ⟨p, dx, t, b, rfl, _⟩ := h
    rfl
  · obtain ⟨p, dx, t, b, rfl, h0, hb, hp, q⟩ := h
    refine ⟨_, PSs.nox ((pss_cons (ps_if (pt_not (pt_val (pe_call GW hr (by rfl) T.gIsW T.FIsW.kp T.bIsW .nil pass0 (pa_cons (pv 1) pa_nil)))) (pss_one ps_never) pss_nil)
      (pss_cons (ps_if (pt_not (pt_val (pe_call GW hr (by rfl) T.gIsW T.FIsW.kp T.bIsW .nil pass0 (pa_cons (pv 2) pa_nil)))) (pss_one ps_never) pss_nil)
      (pss_cons (ps_if (pt_cmpR op_eq (pv 2) pe_int (nomark _)) (pss_one ps_never) pss_nil)
      (pss_cons (ps_set (i := 3) scIni.nd rfl (.inl rfl) (pe_callBfun cr_gcd (by rfl) T.rc.gcd (pa_cons (pv 1) (pa_cons (pv 2) pa_nil))))
      (pss_cons (ps_if (pt_cmpR op_lt (pv 2) pe_int (nomark _)) (pss_one (ps_set (i := 3) scIni.nd rfl (.inl rfl) (pe_un un_neg (pv 3)))) pss_nil)
      (pss_cons (ps_fld (pv 0) (pe_op op_fdivZ (pv 1) (pv 3)) rfl)
      (pss_one (ps_fld (pv 0) (pe_op op_fdivZ (pv 2) (pv 3)) rfl))))))))), ?_⟩
    refine ⟨_, rfl, _, rfl, .inl ⟨_, .int t, _, rfl, iteF ?_⟩⟩
    refine ⟨_, rfl, _, rfl, .inl ⟨_, .int b, _, rfl, iteF ?_⟩⟩
    refine ⟨_, rfl, rfl, _, rfl, ?_⟩
    refine ite2 (fun hc => ?_) (fun _ => ?_)
    · exact (h0 (V.int.inj (of_decide_eq_true hc))).elim
    refine ⟨_, rfl, _, rfl, t, b, rfl, ?_⟩
    have hz := sg_ok (u := t) h0 hb
    refine ⟨_, rfl, _, _, rfl, rfl, _, rfl, ?_⟩
    refine ite2 (fun hc => ?_) (fun hc => ?_)
    · have hl : b < 0 := of_decide_eq_true hc
      have e : sg t b = -gI t b := if_pos hl
      refine ⟨_, rfl, _, rfl, ?_⟩
      rw [e] at hz
      refine ⟨_, rfl, _, rfl, t, _, rfl, rfl, hz, _, rfl, p, C, dx, [], rfl, hp, T.rc.cl, T.rc.nT, (by show 0 < 1000; decide), ?_⟩
      refine ⟨_, rfl, _, rfl, b, _, rfl, rfl, hz, _, rfl, p, C, dx, _, rfl, upd_same, T.rc.cl, T.rc.nB, (by show 1 < 1000; decide), ?_⟩
      show Q .non (upd (upd H p _) p _)
      rw [upd_upd]
      unfold nt nb at q
      rw [e] at q
      exact q
    · have hl : ¬ b < 0 := fun z => hc (decide_eq_true z)
      have e : sg t b = gI t b := if_neg hl
      rw [e] at hz
      refine ⟨_, rfl, _, rfl, t, _, rfl, rfl, hz, _, rfl, p, C, dx, [], rfl, hp, T.rc.cl, T.rc.nT, (by show 0 < 1000; decide), ?_⟩
      refine ⟨_, rfl, _, rfl, b, _, rfl, rfl, hz, _, rfl, p, C, dx, _, rfl, upd_same, T.rc.cl, T.rc.nB, (by show 1 < 1000; decide), ?_⟩
      show Q .non (upd (upd H p _) p _)
      rw [upd_upd]
      unfold nt nb at q
      rw [e] at q
      exact q
theorem ok_top0 {f : Addr} {fd : FuncData} (F : Fun K "top" "Ratio.top" sTop f fd) (T : RC K mg C) : FnOk P w K mg base CX0 1 f fd ["self"] (getSp C "_top") := by
  obtain ⟨oc, od, kV, doc, pm, an, cdv, ct, osl, rfl, lk, hcd⟩ := F.ex
  exact fn_getter lk hcd scTop rfl rfl T.cl T.nT
theorem ok_top (T : Tx K mg C) : FnOk P w K mg base CX0 1 T.aTop T.dTop ["self"] (getSp C "_top") := ok_top0 T.FTop T.rc
theorem ok_bot0 {f : Addr} {fd : FuncData} (F : Fun K "bottom" "Ratio.bottom" sBot f fd) (T : RC K mg C) : FnOk P w K mg base CX0 1 f fd ["self"] (getSp C "_bottom") := by
  obtain ⟨oc, od, kV, doc, pm, an, cdv, ct, osl, rfl, lk, hcd⟩ := F.ex
  exact fn_getter lk hcd scBot rfl rfl T.cl T.nB
theorem ok_bot (T : Tx K mg C) : FnOk P w K mg base CX0 1 T.aBot T.dBot ["self"] (getSp C "_bottom") := ok_bot0 T.FBot T.rc
def DTop (T : Tx K mg C) : Df P w K mg base 1 ["self"] (getSp C "_top") := ⟨_, _, ok_top T, T.bTop⟩
def DBot (T : Tx K mg C) : Df P w K mg base 1 ["self"] (getSp C "_bottom") := ⟨_, _, ok_bot T, T.bBot⟩
theorem ok_as (T : Tx K mg C) : FnOk P w K mg base CX0 4 T.aAs T.dAs ["number"] (spAs C) := by
  have GI : FnOk P w K mg base CX0 2 T.aIni T.dIni ["self", "top", "bottom"] (spInit C) := ok_init T
  refine T.FAs.ok scAs (fun vs H Q E h => ?_) (fun cdv A outer s H vs Q E hr h => ?_)
  · obtain ⟨v, k, n, q, rfl, _⟩ := h
    rfl
  · obtain ⟨v, k, n, q, rfl, nv, hl, z⟩ := h
    refine ⟨_, (pss_cons (ps_if (pt_val (pe_callB call_isi (by rfl) T.rc.isi (by decide +kernel) (pa_cons (pv 0) (pa_cons (pe_glob (v := .ref C) (by rfl) T.rc.mgC rfl) pa_nil)))) (pss_one (ps_ret (pv 0))) pss_nil)
      (pss_one (ps_ret (pe_make T.M GI hr (by rfl) T.rc.mgC T.b1 T.vv pass0 (pa_cons (pv 0) pa_nil))))), ?_⟩
    cases k with
    | true =>
      obtain ⟨a, rfl, r⟩ := nv_true nv
      obtain ⟨⟨dx, ha⟩, _⟩ := id r
      exact ⟨_, rfl, .ref a, .ref C, .ref C, .ref C, true, rfl, .own C, .base (.ins ha T.rc.cl T.rc.ca T.rc.cn T.rc.ct T.rc.cm), T.rc.kC, true, rfl, iteT ⟨_, rfl, z a H (Same.refl _) r⟩⟩
    | false =>
      obtain ⟨i, rfl, rfl, hi, h0⟩ := nv
      refine ⟨_, rfl, .int i, .ref C, .type "int", .ref C, false, rfl, .own C, .base (.int i), T.rc.kB _ (by decide), false, rfl, iteF ?_⟩
      refine ⟨_, rfl, fun x dx hx hd hn => mk_fin hx hd hn (by decide) hi (Nat.one_lt_two_pow (by omega)) hl fun H3 S3 rq => ⟨rfl, z _ H3 S3 ?_⟩⟩
      rw [int_is] at rq
      exact rq
end
end T07

namespace T07
open PySem PySem.Spec PyProof.Rows L2 SF SQ
section
variable {P : Program} {w : World} {K : PySem.W.Frag} {mg : Str → Option Value} {base : Heap} {C : Addr}

theorem ok_Eq (T : Tx K mg C) : FnOk P w K mg base CX0 3 T.aEq T.dEq ["self", "other"] (spEq C) := by
  have GW : FnOk P w K mg base CX0 2 T.aIsW T.dIsW ["value"] (spIsW C) := (ok_isW T).mono (by decide)
  have GT : FnOk P w K mg base CX0 1 T.aTop T.dTop ["self"] (getSp C "_top") := ok_top T
  have GB : FnOk P w K mg base CX0 1 T.aBot T.dBot ["self"] (getSp C "_bottom") := ok_bot T
  refine T.FEq.ok scEq (fun vs H Q E h => ?_) (fun cdv A outer s H vs Q E hr h => ?_)
  · obtain ⟨a, n, q, y, rfl, _⟩ := h
    rfl
  · obtain ⟨a, n, x, y, rfl, ⟨⟨dx, hp⟩, _⟩, q⟩ := h
    refine ⟨_, (pss_cons (ps_if (pt_val (pe_callB call_isi (by rfl) T.rc.isi (by decide +kernel) (pa_cons (pv 1) (pa_cons (pe_glob (v := .ref C) (by rfl) T.rc.mgC rfl) pa_nil)))) (pss_one (ps_ret (pe_and (pe_cmpR op_eq (pe_fld (pv 0) rfl) (pe_prop (pv 1) T.rc.cl T.PTop GT hr T.bTop .nil pass0 rfl) (nomark _)) (pe_one (pe_cmpR op_eq (pe_fld (pv 0) rfl) (pe_prop (pv 1) T.rc.cl T.PBot GB hr T.bBot .nil pass0 rfl) (nomark _)))))) pss_nil)
      (pss_one (ps_ret (pe_and (pe_call GW hr (by rfl) T.gIsW T.FIsW.kp T.bIsW .nil pass0 (pa_cons (pv 1) pa_nil)) (pe_and (pe_cmpR op_eq (pe_fld (pv 0) rfl) pe_int (nomark _)) (pe_one (pe_cmpR op_eq (pe_fld (pv 0) rfl) (pv 1) (nomark _)))))))), ?_⟩
    have q2 : (∃ a' m r, y = .ref a' ∧ RQ C H a' m r ∧ Q (.bl (decide (x = r))) H) ∨ ∃ T, Dec H y T ∧ Q (.bl (eqO y x)) H := by
      rcases q with ⟨k, m, r, nv, q⟩ | q
      · cases k with
        | true => obtain ⟨a', e, r'⟩ := nv; exact .inl ⟨a', m, r, e, r', q⟩
        | false =>
          obtain ⟨i, e, e2, _⟩ := nv
          subst e
          subst e2
          exact .inr ⟨_, .int i, q⟩
      · exact .inr q
    rcases q2 with ⟨a', m, r, rfl, ⟨⟨dx', hp'⟩, _⟩, q⟩ | ⟨ty, d, q⟩
    · refine ⟨_, rfl, .ref a', .ref C, .ref C, .ref C, true, rfl, .own C, .base (.ins hp' T.rc.cl T.rc.ca T.rc.cn T.rc.ct T.rc.cm), T.rc.kC, true, rfl, iteT ?_⟩
      refine ⟨_, rfl, a, C, dx, _, _, rfl, hp, T.rc.cl, T.rc.nT, rf_top _ _, _, rfl, a', dx', _, rfl, hp', a', dx', _, _, rfl, hp', rf_top _ _, rfl, _, rfl, ?_⟩
      rw [dint]
      rw [← eq_bools] at q
      refine ite2 (fun hc => ?_) (fun hc => ?_)
      · rw [hc, Bool.true_and] at q
        refine ⟨_, rfl, a, C, dx, _, _, rfl, hp, T.rc.cl, T.rc.nB, rf_bot _ _, _, rfl, a', dx', _, rfl, hp', a', dx', _, _, rfl, hp', rf_bot _ _, rfl, ?_⟩
        rw [dint]
        exact q
      · have e := Bool.eq_false_iff.mpr hc
        rw [e, Bool.false_and] at q
        exact q
    · refine ⟨_, rfl, y, .ref C, .type ty, .ref C, false, rfl, .own C, d.typ, T.rc.kB _ d.mem, false, rfl, iteF ?_⟩
      refine ⟨_, rfl, y, rfl, .inl ⟨ty, d, isI y, rfl, ?_⟩⟩
      cases d with
      | int i =>
        refine iteT ⟨_, rfl, a, C, dx, _, _, rfl, hp, T.rc.cl, T.rc.nB, rf_bot _ _, rfl, _, rfl, ?_⟩
        rw [dint]
        have e0 : eqO (.int i) x = decide (x = (i : Rat)) := rfl
        rw [e0, ← SQ.eq_int] at q
        refine ite2 (fun hc => ?_) (fun hc => ?_)
        · rw [hc, Bool.true_and] at q
          refine ⟨_, rfl, a, C, dx, _, _, rfl, hp, T.rc.cl, T.rc.nT, rf_top _ _, _, rfl, rfl, ?_⟩
          rw [dint]
          exact q
        · have e := Bool.eq_false_iff.mpr hc
          rw [e, Bool.false_and] at q
          exact q
      | non => exact iteF q
      | bl x => exact iteF q
      | str x => exact iteF q
      | lst e => exact iteF q
      | tup e => exact iteF q
      | dK e => exact iteF q
theorem line5 : 5000 ≤ sizeLine := by decide
theorem tlog {i : Int} {n : Nat} (h : i.natAbs < 2 ^ n) (hn : n ≤ 1900) : i.natAbs.log2 < 1920 := Nat.lt_of_lt_of_le (PySem.Flt.log2_lt_of (k := 1900) (by decide) (Nat.lt_of_lt_of_le h (two_le hn))) (by decide)
theorem tx_len {i : Int} {n : Nat} (h : i.natAbs < 2 ^ n) (hn : n ≤ 1900) : (tx i).length ≤ 1921 := PyProof.Rows.int_text_len_1921 (tlog h hn)
theorem ok_Str (T : Tx K mg C) : FnOk P w K mg base CX0 1 T.aStr T.dStr ["self"] (spStr C) := by
  refine T.FStr.ok scStr (fun vs H Q E h => ?_) (fun cdv A outer s H vs Q E hr h => ?_)
  · obtain ⟨a, n, q, rfl, _⟩ := h
    rfl
  · obtain ⟨a, n, x, rfl, ⟨⟨dx, hp⟩, sz⟩, hn, q⟩ := h
    have l5 := line5
    have lt : x.num.natAbs.log2 < 1920 := tlog sz.1 hn
    have lb : ((x.den : Int)).natAbs.log2 < 1920 := tlog (show (x.den : Int).natAbs < 2 ^ n from sz.2) hn
    have x1 : (Str.ofString (toString x.num)).length ≤ 1921 := tx_len sz.1 hn
    have x2 : (Str.ofString (toString (x.den : Int))).length ≤ 1921 := tx_len (show (x.den : Int).natAbs < 2 ^ n from sz.2) hn
    refine ⟨_, (pss_cons (ps_if (pt_cmpR op_eq (pe_fld (pv 0) rfl) pe_int (nomark _)) (pss_one (ps_ret (pe_callTy call_str_int (by rfl) T.rc.str_ (by decide +kernel) (pa_cons (pe_fld (pv 0) rfl) pa_nil)))) pss_nil)
      (pss_one (ps_ret (pe_joined (.cons (pe_fmt (pe_fld (pv 0) rfl)) (.cons pe_str (.cons (pe_fmt (pe_fld (pv 0) rfl)) .nil))))))), ?_⟩
    refine ⟨_, rfl, a, C, dx, _, _, rfl, hp, T.rc.cl, T.rc.nB, rf_bot _ _, rfl, _, rfl, ?_⟩
    refine ite2 (fun hc => ?_) (fun hc => ?_)
    · have e : (x.den : Int) = 1 := V.int.inj (of_decide_eq_true hc)
      refine ⟨_, rfl, a, C, dx, _, _, rfl, hp, T.rc.cl, T.rc.nT, rf_top _ _, _, rfl, lt, ?_⟩
      have e2 : rstr x = tx x.num := if_pos (by omega)
      rw [e2] at q
      exact q
    · have e : ¬ (x.den : Int) = 1 := fun z => hc (decide_eq_true (congrArg V.int z))
      have e2 : rstr x = ((Str.empty ++ tx x.num) ++ ("/" : Str)) ++ tx x.den := if_neg (by omega)
      rw [e2] at q
      have s1 : ("/" : Str).length = 1 := rfl
      refine ⟨_, rfl, a, C, dx, _, _, rfl, hp, T.rc.cl, T.rc.nT, rf_top _ _, .inr ⟨_, rfl, lt, _, rfl, ?_, _, rfl, ?_, _, rfl, a, C, dx, _, _, rfl, hp, T.rc.cl, T.rc.nB, rf_bot _ _, .inr ⟨_, rfl, lb, _, rfl, ?_, q⟩⟩⟩
      · rw [Str.length_append]
        have : Str.empty.length = 0 := rfl
        omega
      · rw [Str.length_append, Str.length_append, s1]
        have : Str.empty.length = 0 := rfl
        omega
      · rw [Str.length_append, Str.length_append, Str.length_append, s1]
        have : Str.empty.length = 0 := rfl
        omega
theorem ok_Repr (T : Tx K mg C) : FnOk P w K mg base CX0 1 T.aRepr T.dRepr ["self"] (spRepr C) := by
  refine T.FRepr.ok scRepr (fun vs H Q E h => ?_) (fun cdv A outer s H vs Q E hr h => ?_)
  · obtain ⟨a, n, q, rfl, _⟩ := h
    rfl
  · obtain ⟨a, n, x, rfl, ⟨⟨dx, hp⟩, sz⟩, hn, q⟩ := h
    have l5 := line5
    have lt : x.num.natAbs.log2 < 1920 := tlog sz.1 hn
    have lb : ((x.den : Int)).natAbs.log2 < 1920 := tlog (show (x.den : Int).natAbs < 2 ^ n from sz.2) hn
    have x1 : (Str.ofString (toString x.num)).length ≤ 1921 := tx_len sz.1 hn
    have x2 : (Str.ofString (toString (x.den : Int))).length ≤ 1921 := tx_len (show (x.den : Int).natAbs < 2 ^ n from sz.2) hn
    have s0 : Str.empty.length = 0 := rfl
    have s1 : ("Ratio(" : Str).length = 6 := rfl
    have s2 : (", " : Str).length = 2 := rfl
    have s3 : (")" : Str).length = 1 := rfl
    refine ⟨_, (pss_one (ps_ret (pe_joined (.cons pe_str (.cons (pe_fmt (pe_fld (pv 0) rfl)) (.cons pe_str (.cons (pe_fmt (pe_fld (pv 0) rfl)) (.cons pe_str .nil)))))))), ?_⟩
    refine ⟨_, rfl, ?_, _, rfl, a, C, dx, _, _, rfl, hp, T.rc.cl, T.rc.nT, rf_top _ _, .inr ⟨_, rfl, lt, _, rfl, ?_, _, rfl, ?_, _, rfl, a, C, dx, _, _, rfl, hp, T.rc.cl, T.rc.nB, rf_bot _ _, .inr ⟨_, rfl, lb, _, rfl, ?_, _, rfl, ?_, q⟩⟩⟩
    · simp only [Str.length_append]; omega
    · simp only [Str.length_append]; omega
    · simp only [Str.length_append]; omega
    · simp only [Str.length_append]; omega
    · simp only [Str.length_append]; omega
end
end T07

namespace T07
open PySem PySem.Spec PyProof.Rows L2 SF SQ
section
variable {P : Program} {w : World} {K : PySem.W.Frag} {mg : Str → Option Value} {base : Heap} {C : Addr}
theorem line640 : 640 ≤ sizeLine := by decide
theorem ok_IsP (T : Tx K mg C) : FnOk P w K mg base CX0 1 T.aIsP T.dIsP ["text"] spIsP := by
  refine T.FIsP.ok scIsP (fun vs H Q E h => ?_) (fun cdv A outer s H vs Q E hr h => ?_)
  · obtain ⟨x, rfl, _⟩ := h
    rfl
  · obtain ⟨x, rfl, hl, q⟩ := h
    refine ⟨_, (pss_one (ps_ret (pe_and (pe_m0 F.slot_str_isascii F.type_str_isascii mt_isascii (pv 0)) (pe_and (pe_m0 F.slot_str_isdigit F.type_str_isdigit mt_isdigit (pv 0)) (pe_one (pe_cmpR op_ne (pe_ix ix_str (pv 0) pe_int (fun _ _ => rfl)) pe_str (nomark _))))))), ?_⟩
    have e0 : posT x = (Txt.isascii x && (Txt.isdigit x && !decide ((TL.tl x).head? = some 48))) := rfl
    rw [e0] at q
    refine ⟨_, rfl, ⟨_, rfl⟩, x, rfl, rfl, trivial, _, rfl, ?_⟩
    refine ite2 (fun h1 => ?_) (fun h1 => ?_)
    · rw [h1, Bool.true_and] at q
      refine ⟨_, rfl, ⟨_, rfl⟩, x, rfl, rfl, trivial, _, rfl, ?_⟩
      refine ite2 (fun h2 => ?_) (fun h2 => ?_)
      · rw [h2, Bool.true_and] at q
        obtain ⟨c, l, e⟩ : ∃ c l, TL.tl x = c :: l := by
          cases e : TL.tl x with
          | nil =>
            unfold Txt.isdigit at h2
            have := of_decide_eq_true (Bool.and_eq_true_iff.mp h2).1
            rw [TL.len_tl, e] at this
            exact absurd this (by simp)
          | cons c l => exact ⟨c, l, rfl⟩
        refine ⟨_, rfl, x, 0, c, rfl, rfl, Nat.le_trans hl line640, (by rw [show x.cps.toList = c :: l from e]; show atI (c :: l) ((0 : Nat) : Int) = some c; exact atI_nat rfl), rfl, ?_⟩
        have e2 : decide (V.str ⟨#[c]⟩ = V.str "0") = decide ((TL.tl x).head? = some 48) := by
          rw [e]
          by_cases hc : c = 48
          · subst hc; rfl
          · rw [decide_eq_false (fun z => hc (by have z1 := congrArg (fun s : Str => TL.tl s) (V.str.inj z); have z2 : [c] = [48] := z1; injection z2)), decide_eq_false (fun z => hc (by injection z))]
        rw [e2]
        exact q
      · rw [Bool.eq_false_iff.mpr h2, Bool.false_and] at q
        exact q
    · rw [Bool.eq_false_iff.mpr h1, Bool.false_and] at q
      exact q
theorem str_emp {x : Str} : decide (V.str x = V.str "") = decide (x = ("" : Str)) := by
  by_cases h : x = ""
  · rw [h]; simp
  · rw [decide_eq_false h, decide_eq_false (fun z => h (V.str.inj z))]
theorem str_dec {x y : Str} : decide (V.str x = V.str y) = decide (x = y) := by
  by_cases h : x = y
  · rw [h]; simp
  · rw [decide_eq_false h, decide_eq_false (fun z => h (V.str.inj z))]
theorem rp_len (x : Str) : (Txt.removeprefix x "-").length ≤ x.length := by
  by_cases h : (TL.tl x).head? = some 45
  · cases e : TL.tl x with
    | nil => rw [e] at h; cases h
    | cons c l =>
      rw [e] at h
      simp at h
      subst h
      rw [TL.len_tl, TL.len_tl, rp_neg e, e]
      simp
  · rw [rp_same h]; exact Nat.le_refl _
theorem top_test {σ : L2.St} {H : Hp} {Q : Bool → Hp → Prop} {a : Str} (ha : σ[1]? = some (some (V.str a))) (la : a.length ≤ 640) (z : Q (!(decide (a = ("0" : Str)) || posT (Txt.removeprefix a "-"))) H) :
    tAnd (tTest (tOp rNe (tVar 1) (tC (V.str "0")))) (tNot (tB (tCall spIsP [] E0 (tCons (tM1 (fun x xs H Q => ∃ a b, x = .str a ∧ xs = [.str b] ∧ a.length ≤ sizeLine ∧ Q (.str (Txt.removeprefix a b)) H) (tVar 1) (tC (V.str "-"))) tNil)))) σ H Q := by
  have l6 := line640
  have lr := rp_len a
  refine ⟨_, ha, rfl, _, rfl, ?_⟩
  rw [str_dec]
  by_cases h : a = ("0" : Str)
  · rw [decide_eq_true h] at z ⊢
    exact iteF z
  · rw [decide_eq_false h, Bool.false_or] at z
    rw [decide_eq_false h]
    exact iteT ⟨_, ha, ⟨_, rfl⟩, a, "-", rfl, rfl, Nat.le_trans la l6, _, rfl, by omega, _, rfl, z⟩
theorem ok_IsT (T : Tx K mg C) : FnOk P w K mg base CX0 2 T.aIsT T.dIsT ["text"] spIsT := by
  have GP : FnOk P w K mg base CX0 1 T.aIsP T.dIsP ["text"] spIsP := ok_IsP T
  refine T.FIsT.ok scIsT (fun vs H Q E h => ?_) (fun cdv A outer s H vs Q E hr h => ?_)
  · obtain ⟨x, rfl, _⟩ := h
    rfl
  · obtain ⟨x, rfl, hl, q⟩ := h
    have l6 := line640
    refine ⟨_, (pss_cons (ps_if (pt_not (pt_val (pe_callB call_isi (by rfl) T.rc.isi (by decide +kernel) (pa_cons (pv 0) (pa_cons (pe_bltn (v := .ty "str") (u := .type "str") (by rfl) T.rc.str_ (by decide +kernel) rfl) pa_nil))))) (pss_one (ps_ret pe_bl)) pss_nil)
      (pss_cons (ps_asg (pe_partition (pv 0) pe_str) (pg_tup rfl (pgs_cons (pg_name (i := 1) scIsT.nd rfl (.inl rfl)) (pgs_cons (pg_name (i := 2) scIsT.nd rfl (.inl rfl)) (pgs_cons (pg_name (i := 3) scIsT.nd rfl (.inl rfl)) pgs_nil)))))
      (pss_cons (ps_if (pt_weak (t' := fun σ H Q => ∃ a : Str, σ[1]? = some (some (V.str a)) ∧ a.length ≤ 640 ∧ Q (!(decide (a = ("0" : Str)) || posT (Txt.removeprefix a "-"))) H) (PW.pt (pw_and (pt_cmpR op_ne (pv 1) pe_str (nomark _)) (pw_and1 (pt_not (pt_val (pe_call GP hr (by rfl) T.gIsP T.FIsP.kp T.bIsP .nil pass0 (pa_cons (pe_m1 F.slot_str_removeprefix F.type_str_removeprefix mt_removeprefix (pv 1) pe_str) pa_nil))))))) (fun σ H Q ⟨a, ha, la, z⟩ => top_test ha la z)) (pss_one (ps_ret pe_bl)) pss_nil)
      (pss_cons (ps_if (pt_cmpR op_eq (pv 2) pe_str (nomark _)) (pss_one (ps_ret pe_bl)) pss_nil)
      (pss_one (ps_ret (pe_and (pe_call GP hr (by rfl) T.gIsP T.FIsP.kp T.bIsP .nil pass0 (pa_cons (pv 3) pa_nil)) (pe_and (pe_cmpR op_ne (pv 3) pe_str (nomark _)) (pe_one (pe_cmpR op_eq (pe_callBfun cr_gcd (by rfl) T.rc.gcd (pa_cons (pe_callTy call_int_str (by rfl) T.rc.int_ (by decide +kernel) (pa_cons (pv 1) pa_nil)) (pa_cons (pe_callTy call_int_str (by rfl) T.rc.int_ (by decide +kernel) (pa_cons (pv 3) pa_nil)) pa_nil))) pe_int (nomark _))))))))))), ?_⟩
    refine ⟨_, rfl, _, _, _, _, true, rfl, .ty _, (Dec.str x).typ, kit_ty (by decide +kernel), true, rfl, iteF ?_⟩
    refine ⟨_, rfl, ⟨_, rfl⟩, x, "/", rfl, rfl, rfl, Nat.le_trans hl l6, fun t nt => ?_⟩
    generalize hE : upd H t _ = H1
    have ht := upd_got hE
    have st := upd_stay hE nt
    have q := q H1 st
    have pl := part_len x
    unfold isTx at q
    generalize Txt.partition x "/" = pp at ht q pl
    obtain ⟨a, b, c⟩ := pp
    dsimp only at ht q pl
    refine ⟨t, _, rfl, SqT.of ht, rfl, _, _, rfl, _, _, rfl, _, _, rfl, rfl, ?_⟩
    have la : a.length ≤ 640 := Nat.le_trans pl.1 hl
    have lc : c.length ≤ 640 := Nat.le_trans pl.2 hl
    refine ⟨a, rfl, la, ?_⟩
    refine ite2 (fun h1 => ?_) (fun h1 => ?_)
    · have e : (decide (a = ("0" : Str)) || posT (Txt.removeprefix a "-")) = false := by simpa using h1
      rw [e, Bool.false_and] at q
      exact q
    have htop : (decide (a = ("0" : Str)) || posT (Txt.removeprefix a "-")) = true := by cases e : (decide (a = ("0" : Str)) || posT (Txt.removeprefix a "-")) with | true => rfl | false => rw [e] at h1; exact absurd rfl h1
    rw [htop, Bool.true_and] at q
    refine ⟨_, rfl, rfl, _, rfl, ?_⟩
    rw [str_dec]
    refine ite2 (fun h2 => ?_) (fun h2 => ?_)
    · rw [h2, Bool.true_or] at q
      exact q
    rw [Bool.eq_false_iff.mpr h2, Bool.false_or] at q
    refine ⟨_, rfl, c, rfl, lc, _, rfl, ?_⟩
    refine ite2 (fun h3 => ?_) (fun h3 => ?_)
    · rw [h3, Bool.true_and] at q
      refine ⟨_, rfl, rfl, _, rfl, ?_⟩
      rw [str_dec]
      refine ite2 (fun h4 => ?_) (fun h4 => ?_)
      · rw [h4, Bool.true_and] at q
        refine ⟨_, rfl, a, iv a, rfl, iv_top htop (by omega), la, _, rfl, c, iv c, rfl, iv_pos h3 (by omega), lc, _, _, rfl, rfl, ?_⟩
        rw [dint]
        exact q
      · rw [Bool.eq_false_iff.mpr h4, Bool.false_and] at q
        exact q
    · rw [Bool.eq_false_iff.mpr h3, Bool.false_and] at q
      exact q
theorem ok_Rd (T : Tx K mg C) : FnOk P w K mg base CX0 4 T.aRd T.dRd ["cls", "text"] (spRd C) := by
  have GI : FnOk P w K mg base CX0 2 T.aIni T.dIni ["self", "top", "bottom"] (spInit C) := ok_init T
  have GT : FnOk P w K mg base CX0 2 T.aIsT T.dIsT ["text"] spIsT := ok_IsT T
  refine T.FRd.ok scRd (fun vs H Q E h => ?_) (fun cdv A outer s H vs Q E hr h => ?_)
  · obtain ⟨x, rfl, _⟩ := h
    rfl
  · obtain ⟨x, rfl, hl, hx, q⟩ := h
    have l6 := line640
    have hr2 := hr.mono (show 2 ≤ 3 by decide)
    refine ⟨_, PSs.nox (pss_cons (ps_if (pt_not (pt_val (pe_call GT hr2 (by rfl) T.gIsT T.FIsT.kp T.bIsT .nil pass0 (pa_cons (pv 1) pa_nil)))) (pss_one ps_never) pss_nil)
      (pss_cons (ps_asg (pe_partition (pv 1) pe_str) (pg_tup rfl (pgs_cons (pg_name (i := 2) scRd.nd rfl (.inl rfl)) (pgs_cons (pg_name (i := 3) scRd.nd rfl (.inl rfl)) (pgs_cons (pg_name (i := 4) scRd.nd rfl (.inl rfl)) pgs_nil)))))
      (pss_cons (ps_if (pt_cmpR op_eq (pv 3) pe_str (nomark _)) (pss_one (ps_ret (pe_makeL (i := 0) T.M GI hr rfl (.inl rfl) T.b1 T.vv pass0 (pa_cons (pe_callTy call_int_str (by rfl) T.rc.int_ (by decide +kernel) (pa_cons (pv 2) pa_nil)) pa_nil)))) pss_nil)
      (pss_one (ps_ret (pe_makeL (i := 0) T.M GI hr rfl (.inl rfl) T.b2 .nil pass0 (pa_cons (pe_callTy call_int_str (by rfl) T.rc.int_ (by decide +kernel) (pa_cons (pv 2) pa_nil)) (pa_cons (pe_callTy call_int_str (by rfl) T.rc.int_ (by decide +kernel) (pa_cons (pv 4) pa_nil)) pa_nil)))))))), ?_⟩
    refine ⟨_, rfl, x, rfl, hl, fun H0 s0 => ⟨_, rfl, ?_⟩⟩
    rw [hx]
    refine iteF ?_
    refine ⟨_, rfl, ⟨_, rfl⟩, x, "/", rfl, rfl, rfl, Nat.le_trans hl l6, fun t nt => ?_⟩
    generalize hE : upd H0 t _ = H1
    have ht := upd_got hE
    have st := upd_stay hE nt
    have s1 := s0.trans st
    have pl := part_len x
    unfold isTx at hx
    unfold rdq at q
    generalize Txt.partition x "/" = pp at ht q pl hx
    obtain ⟨a, b, c⟩ := pp
    dsimp only at ht q pl hx
    have la : a.length ≤ 640 := Nat.le_trans pl.1 hl
    have lc : c.length ≤ 640 := Nat.le_trans pl.2 hl
    obtain ⟨htop, hx⟩ := Bool.and_eq_true_iff.mp hx
    have ai := iv_lt htop la
    refine ⟨t, _, rfl, SqT.of ht, rfl, _, _, rfl, _, _, rfl, _, _, rfl, rfl, ?_⟩
    refine ⟨_, rfl, rfl, _, rfl, ?_⟩
    rw [str_dec]
    refine ite2 (fun h2 => ?_) (fun h2 => ?_)
    · have h2 : b = ("" : Str) := of_decide_eq_true h2
      rw [if_pos h2] at q
      refine ⟨rfl, _, rfl, a, iv a, rfl, iv_top htop (by omega), la, ?_⟩
      refine fun x dx hx hd hn => mk_fin hx hd hn (by decide) ai (Nat.one_lt_two_pow (by decide)) (by decide) fun H3 S3 rq => ⟨rfl, q _ H3 (s1.trans S3) ?_⟩
      rw [int_is] at rq
      exact rq
    · have h2 : ¬ b = ("" : Str) := fun z => h2 (decide_eq_true z)
      rw [if_neg h2] at q
      rw [decide_eq_false h2, Bool.false_or] at hx
      obtain ⟨hc, _⟩ := Bool.and_eq_true_iff.mp hx
      refine ⟨rfl, _, rfl, a, iv a, rfl, iv_top htop (by omega), la, _, rfl, c, iv c, rfl, iv_pos hc (by omega), lc, ?_⟩
      exact fun x dx hx hd hn => mk_fin hx hd hn (ivp_ne hc lc) ai (ivp_lt hc lc) (by decide) fun H3 S3 rq => ⟨rfl, q _ H3 (s1.trans S3) rq⟩
end
end T07

namespace T07
open PySem PySem.Spec PyProof.Rows L2 SF SQ
/-- the built-in names that the law's helpers call -/
structure Blt (mg : Str → Option Value) : Prop where
  len : mg "len" = none
  int : mg "int" = none
  abs : mg "abs" = none
  dvm : mg "divmod" = none
def Tx.blt {K : PySem.W.Frag} {mg : Str → Option Value} {C : Addr} (T : Tx K mg C) : Blt mg := ⟨T.len, T.rc.int_, T.rc.abs_, T.dvm⟩
section
variable {P : Program} {w : World} {K : PySem.W.Frag} {mg : Str → Option Value} {base : Heap}
def spCell (K : PySem.W.Frag) : Sp := fun vs H Q _ => ∃ (a : Addr) (ns : List Int) (k : Int), vs = [.ref a, .int k] ∧ SqL K H a (ns.map V.int) ∧ ns.length ≤ 63 ∧ 0 ≤ k ∧ k ≤ 63 ∧ ∀ z H', Same H H' → Q (.int z) H'
theorem ok_cell {f : Addr} {fd : FuncData} (F : Fun K "_law_cell" "_law_cell" sCell f fd) (T : Blt mg) : FnOk P w K mg base CX0 1 f fd ["_law_cells", "_law_k"] (spCell K) := by
  refine F.ok scCell (fun vs H Q E h => ?_) (fun cdv A outer s H vs Q E hr h => ?_)
  · obtain ⟨a, ns, k, rfl, _⟩ := h
    rfl
  · obtain ⟨a, ns, k, rfl, hS, hl, h0, h1, q⟩ := h
    refine ⟨_, pss_cons (ps_if (pt_cmpR op_lt (pv 1) (pe_callB call_len_seq (by rfl) T.len PySem.boot_len (pa_cons (pv 0) pa_nil)) (nomark _)) (pss_one (ps_ret (pe_callTy call_int1 (by rfl) T.int (by decide +kernel) (pa_cons (pe_ix ix_list (pv 0) (pv 1) (fun _ _ => rfl)) pa_nil)))) pss_nil)
      (pss_cons (ps_set (i := 2) scCell.nd rfl (.inl rfl) (pe_op op_add (pe_op op_add pe_int (pe_op op_mul (pe_op op_mul pe_int (pv 1)) (pv 1))) (pe_op op_mul pe_int (pv 1))))
      (pss_cons (ps_for PassesOwn.never rfl (pi_list (pe_slice sl_list (pv 0) po_none (po_some pe_int))) (pg_name (i := 3) scCell.nd rfl (.inl rfl))
        (pss_one (ps_set (i := 2) scCell.nd rfl (.inl rfl) (pe_op op_mod (pe_callTy call_int1 (by rfl) T.int (by decide +kernel) (pa_cons (pe_op op_add (pe_op op_mul (pv 2) pe_int) (pe_op op_mul (pe_callTy call_int1 (by rfl) T.int (by decide +kernel) (pa_cons (pv 3) pa_nil)) (pe_op op_add (pv 1) pe_int))) pa_nil)) pe_int))))
      (pss_one (ps_ret (pv 2))))), ?_⟩
    refine ⟨_, rfl, _, rfl, a, _, rfl, .inl hS, _, _, rfl, rfl, _, rfl, ?_⟩
    have hlen : ((ns.map V.int).length : Int) = (ns.length : Int) := by rw [List.length_map]
    refine ite2 (fun hc => ?_) (fun hc => ?_)
    · have hk : k < (ns.length : Int) := by rw [← hlen]; exact of_decide_eq_true hc
      have hj : k.toNat < ns.length := by omega
      refine ⟨_, rfl, _, rfl, a, _, k, .int ns[k.toNat], rfl, rfl, hS, at_of (j := k.toNat) (by omega) (by rw [List.getElem?_map, List.getElem?_eq_getElem hj]; rfl), .inl ⟨_, rfl, ?_⟩⟩
      exact q _ _ (Same.refl _)
    · refine ⟨_, rfl, 7, k, rfl, rfl, .inl ⟨by decide, by decide⟩, _, rfl, _, _, rfl, rfl, .inr ⟨by omega, by omega⟩, _, _, rfl, rfl, _, rfl, 3, k, rfl, rfl, .inl ⟨by decide, by decide⟩, _, _, rfl, rfl, ?_⟩
      refine ⟨_, rfl, _, rfl, a, _, rfl, hS, fun p hp => ?_⟩
      have hp' : H p = none := hp
      refine ⟨p, rfl, ⟨_, SqL.of upd_same⟩, for_list (K := K) (a := p) (xs := cutV (ns.map V.int) none (some 4)) (fun i σ H' => H' = upd H p (.lst (cutV (ns.map V.int) none (some 4))) ∧ ∃ m v, σ = [some (.ref a), some (.int k), some (.int m), v]) ⟨rfl, _, none, rfl⟩ (fun i σ H' _ ⟨e, _⟩ => by rw [e]; exact SqL.of upd_same) ?_ ?_⟩
      · rintro i y σ H' hi ⟨rfl, m, v, rfl⟩
        obtain ⟨z, rfl⟩ : ∃ z, y = V.int z := by
          have hm : y ∈ cutV (ns.map V.int) none (some 4) := List.mem_of_getElem? hi
          unfold cutV at hm
          obtain ⟨z, _, e⟩ := List.mem_map.mp (List.mem_of_mem_drop (List.mem_of_mem_take hm))
          exact ⟨z, e.symm⟩
        refine ⟨_, rfl, m, 69621, rfl, rfl, .inr ⟨by decide, by decide⟩, _, rfl, .inl ⟨z, rfl, _, rfl, _, _, rfl, rfl, z, k + 3, rfl, rfl, .inr ⟨by omega, by omega⟩, _, _, rfl, rfl, .inl ⟨_, rfl, _, _, rfl, rfl, (by show (0 : Int) < 2147483629; decide), ?_⟩⟩⟩
        exact ⟨rfl, _, _, rfl⟩
      · rintro σ H' ⟨rfl, m, v, rfl⟩
        refine ⟨_, rfl, q _ _ fun b o e => ?_⟩
        rw [upd_ne (ne_of_none e hp')]
        exact e
/-- a list of three ints: the law's source of draws -/
def SrcAt (H : Hp) (a : Addr) : Prop := ∃ x y z : Int, H a = some (.lst [.int x, .int y, .int z])
/-- all that was tracked but the thing at a is as it was -/
def But (a : Addr) (H H' : Hp) : Prop := ∀ b o, b ≠ a → H b = some o → H' b = some o
theorem But.refl (a : Addr) (H : Hp) : But a H H := fun _ _ _ e => e
theorem But.trans {a : Addr} {H H1 H2 : Hp} (x : But a H H1) (y : But a H1 H2) : But a H H2 := fun b o n e => y b o n (x b o n e)
theorem But.upd {a : Addr} {H : Hp} {o : HO} : But a H (upd H a o) := fun b u n e => by rw [upd_ne n]; exact e
theorem But.new {a p : Addr} {H H1 : Hp} {o : HO} (x : But a H H1) (h : H1 p = none) : But a H (L2.upd H1 p o) := fun b u n e => by rw [upd_ne (ne_of_none (x b u n e) h)]; exact x b u n e
theorem SrcAt.ne {H : Hp} {a p : Addr} (s : SrcAt H a) (h : H p = none) : a ≠ p := by
  obtain ⟨x, y, z, e⟩ := s
  exact ne_of_none e h

def spSource : Sp := fun vs H Q _ => ∃ c : Int, vs = [.int c] ∧ ∀ p H', H p = none → Same H H' → SrcAt H' p → Q (.ref p) H'
theorem ok_source {f : Addr} {fd : FuncData} (F : Fun K "_law_source" "_law_source" sSrc f fd) (T : Blt mg) : FnOk P w K mg base CX0 1 f fd ["_law_cell_here"] spSource := by
  refine F.ok scSrc (fun vs H Q E h => ?_) (fun cdv A outer s H vs Q E hr h => ?_)
  · obtain ⟨c, rfl, _⟩ := h
    rfl
  · obtain ⟨c, rfl, q⟩ := h
    refine ⟨_, pss_cons (ps_set (i := 1) scSrc.nd rfl (.inl rfl) (pe_ifExp (pt_cmpR op_ge (pe_callB call_abs (by rfl) T.abs (by decide +kernel) (pa_cons (pv 0) pa_nil)) (pe_op op_pow pe_int pe_int) (nomark _)) (pe_callB call_abs (by rfl) T.abs (by decide +kernel) (pa_cons (pv 0) pa_nil)) pe_int))
      (pss_one (ps_ret (pe_lst (pa_cons (pe_op op_mod (pe_callTy call_int1 (by rfl) T.int (by decide +kernel) (pa_cons (pe_op op_add (pe_op op_mul (pv 0) pe_int) pe_int) pa_nil)) pe_int) (pa_cons (pv 1) (pa_cons pe_int pa_nil)))))), ?_⟩
    have tail : ∀ g : Int, tRet (tLst (tCons (tOp (rI (fun _ j => 0 < j) fun i j => V.int (i % j)) (tCB (fun xs H Q => (∃ i, xs = [V.int i] ∧ Q (V.int i) H) ∨ ∃ k, xs = [V.bl k] ∧ Q (V.int (if k = true then 1 else 0)) H) (tCons (tOp (rI0 fun i j => V.int (i + j)) (tOp (rI CMul fun i j => V.int (i * j)) (tVar 0) (tC (V.int 48271))) (tC (V.int 977))) tNil)) (tC (V.int 2147483629))) (tCons (tVar 1) (tCons (tC (V.int 0)) tNil))))
        { nx := fun _ H' => Q .non H', rt := Q } [some (.int c), some (.int g)] H := fun g => by
      refine ⟨_, rfl, c, 48271, rfl, rfl, .inr ⟨by decide, by decide⟩, _, _, rfl, rfl, .inl ⟨_, rfl, _, _, rfl, rfl, (by show (0 : Int) < 2147483629; decide), _, rfl, (by show 3 ≤ sizeLine; decide), fun p hp => ?_⟩⟩
      have hp' : H p = none := hp
      exact q p _ hp' (fun b o e => by rw [upd_ne (ne_of_none e hp')]; exact e) ⟨_, _, _, upd_same⟩
    refine ⟨_, rfl, c, rfl, 10, 18, rfl, rfl, ⟨by decide, by decide, by decide⟩, _, _, rfl, rfl, _, rfl, ?_⟩
    refine ite2 (fun _ => ?_) (fun _ => ?_)
    · exact ⟨_, rfl, c, rfl, tail _⟩
    · exact tail 0

def spDraw : Sp := fun vs H Q _ => ∃ (a : Addr) (m : Int), vs = [.ref a, .int m] ∧ 0 < m ∧ m ≤ 100000000000000000000 ∧ SrcAt H a ∧ ∀ d H', 0 ≤ d → d < m → SrcAt H' a → But a H H' → Q (.int d) H'
theorem log_of {m : Int} (h0 : 0 < m) (h : m ≤ 100000000000000000000) : m.natAbs.log2 < 9000 := by
  have e : m.natAbs < 2 ^ 70 := by omega
  exact Nat.lt_of_lt_of_le (PySem.Flt.log2_lt_of (by decide) e) (by decide)
theorem ok_draw {f : Addr} {fd : FuncData} (F : Fun K "_law_draw" "_law_draw" sDraw f fd) (T : Blt mg) : FnOk P w K mg base CX0 1 f fd ["_law_source_here", "_law_many"] spDraw := by
  refine F.ok scDraw (fun vs H Q E h => ?_) (fun cdv A outer s H vs Q E hr h => ?_)
  · obtain ⟨a, m, rfl, _⟩ := h
    rfl
  · obtain ⟨a, m, rfl, h0, h1, ⟨x, y, z, hs⟩, q⟩ := h
    have hL := log_of h0 h1
    have pt : m.natAbs.log2 < 9000 := hL
    refine ⟨_, pss_cons (ps_asg (pe_op op_add (pe_ix ix_list (pv 0) pe_int (fun _ _ => rfl)) pe_int) (pg_sub (pv 0) pe_int set_list))
      (pss_cons (ps_set (i := 2) scDraw.nd rfl (.inl rfl) (pe_callTy call_int1 (by rfl) T.int (by decide +kernel) (pa_cons (pe_ix ix_list (pv 0) pe_int (fun _ _ => rfl)) pa_nil)))
      (pss_cons (ps_set (i := 3) scDraw.nd rfl (.inl rfl) (pe_callTy call_int1 (by rfl) T.int (by decide +kernel) (pa_cons (pe_op op_add (pe_op op_add (pe_op op_mul (pv 2) (pe_op op_add (pe_op op_mod (pe_callTy call_int1 (by rfl) T.int (by decide +kernel) (pa_cons (pv 2) pa_nil)) pe_int) pe_int)) (pe_op op_mul pe_int (pe_ix ix_list (pv 0) pe_int (fun _ _ => rfl)))) pe_int) pa_nil)))
      (pss_cons (ps_asg (pe_op op_mod (pe_callTy call_int1 (by rfl) T.int (by decide +kernel) (pa_cons (pv 3) pa_nil)) pe_int) (pg_sub (pv 0) pe_int set_list))
      (pss_cons (ps_if (pt_cmpR op_gt (pe_ix ix_list (pv 0) pe_int (fun _ _ => rfl)) pe_int (nomark _))
        (pss_cons (ps_asg (pe_callB call_divmodW (by rfl) T.dvm (by decide +kernel) (pa_cons (pe_ix ix_list (pv 0) pe_int (fun _ _ => rfl)) (pa_cons (pv 1) pa_nil))) (pg_tup rfl (pgs_cons (pg_sub (pv 0) pe_int set_list) (pgs_cons (pg_name (i := 4) scDraw.nd rfl (.inl rfl)) pgs_nil))))
          (pss_one (ps_ret (pv 4)))) pss_nil)
      (pss_one (ps_ret (pe_op op_mod (pe_callTy call_int1 (by rfl) T.int (by decide +kernel) (pa_cons (pe_op op_fdiv (pe_ix ix_list (pv 0) pe_int (fun _ _ => rfl)) pe_int) pa_nil)) (pv 1)))))))), ?_⟩
    refine ⟨_, rfl, a, _, 2, .int z, rfl, rfl, SqL.of hs, (by rfl), z, 1, rfl, rfl, _, rfl, a, _, 2, 2, rfl, rfl, hs, (by rfl), ?_⟩
    refine ⟨_, rfl, a, [.int x, .int y, .int (z + 1)], 0, .int x, rfl, rfl, SqL.of upd_same, (by rfl), .inl ⟨x, rfl, ?_⟩⟩
    have b1 : 0 ≤ x % 30011 := Int.emod_nonneg _ (by decide)
    have b2 : x % 30011 < 30011 := Int.emod_lt_of_pos _ (by decide)
    refine ⟨_, rfl, _, rfl, .inl ⟨x, rfl, x, 30011, rfl, rfl, (by show (0 : Int) < 30011; decide), _, _, rfl, rfl, x, _, rfl, rfl, .inr ⟨by omega, by omega⟩, _, rfl, a, [.int x, .int y, .int (z + 1)], 2, .int (z + 1), rfl, rfl, SqL.of upd_same, (by rfl), 65539, _, rfl, rfl, .inl ⟨by decide, by decide⟩, _, _, rfl, rfl, _, _, rfl, rfl, .inl ⟨_, rfl, ?_⟩⟩⟩
    refine ⟨_, rfl, .inl ⟨_, rfl, _, _, rfl, rfl, (by show (0 : Int) < 2147483629; decide), _, rfl, a, [.int x, .int y, .int (z + 1)], 0, 0, rfl, rfl, upd_same, (by rfl), ?_⟩⟩
    refine ⟨_, rfl, a, [.int _, .int y, .int (z + 1)], 1, .int y, rfl, rfl, SqL.of upd_same, (by rfl), _, _, rfl, rfl, _, rfl, ?_⟩
    refine ite2 (fun _ => ?_) (fun _ => ?_)
    · refine ⟨_, rfl, a, [.int _, .int y, .int (z + 1)], 1, .int y, rfl, rfl, SqL.of upd_same, (by rfl), _, rfl, y, m, rfl, ⟨h0, PyProof.noPylong_of_log2 hL⟩, fun p hp => ?_⟩
      have nap : a ≠ p := ne_of_none upd_same hp
      refine ⟨p, _, rfl, SqT.of upd_same, rfl, _, _, rfl, _, rfl, a, [.int _, .int y, .int (z + 1)], 1, 1, rfl, rfl, (by rw [upd_ne nap]; exact upd_same), (by rfl), _, _, rfl, rfl, ?_⟩
      refine ⟨_, rfl, q _ _ (Int.emod_nonneg _ (by omega)) (Int.emod_lt_of_pos _ h0) ⟨_, _, _, upd_same⟩ ?_⟩
      exact (((But.upd (a := a)).trans But.upd).new hp).trans But.upd
    · refine ⟨_, rfl, a, [.int _, .int y, .int (z + 1)], 0, .int _, rfl, rfl, SqL.of upd_same, (by rfl), _, _, rfl, rfl, ⟨by decide, by decide⟩, .inl ⟨_, rfl, _, rfl, _, _, rfl, rfl, h0, ?_⟩⟩
      exact q _ _ (Int.emod_nonneg _ (by omega)) (Int.emod_lt_of_pos _ h0) ⟨_, _, _, upd_same⟩ ((But.upd (a := a)).trans But.upd)
end
section
variable {P : Program} {w : World} {K : PySem.W.Frag} {mg : Str → Option Value} {base : Heap}
def spCommon : Sp := fun vs H Q _ => ∃ x y : Int, vs = [.int x, .int y] ∧ Q (.int (gI x y)) H
def muCommon : L2.St → Hp → Nat := fun σ _ => match σ with
  | [_, _, _, some (.int l)] => l.toNat
  | _ => 0
theorem abs_nat (i : Int) : (if i < 0 then -i else i) = ((i.natAbs : Nat) : Int) := by split <;> omega
theorem ok_common {f : Addr} {fd : FuncData} (F : Fun K "_law_common" "_law_common" sCom f fd) (T : Blt mg) : FnOk P w K mg base CX0 1 f fd ["_law_one", "_law_two"] spCommon := by
  refine F.ok scCom (fun vs H Q E h => ?_) (fun cdv A outer s H vs Q E hr h => ?_)
  · obtain ⟨x, y, rfl, _⟩ := h
    rfl
  · obtain ⟨x, y, rfl, q⟩ := h
    refine ⟨_, pss_cons (ps_par (i := 2) (j := 3) (by rfl) scCom.nd rfl rfl (by decide) rfl rfl (pa_cons (pe_callB call_abs (by rfl) T.abs (by decide +kernel) (pa_cons (pv 0) pa_nil)) (pa_cons (pe_callB call_abs (by rfl) T.abs (by decide +kernel) (pa_cons (pv 1) pa_nil)) pa_nil)) (by rfl))
      (pss_cons (ps_while PassesOwn.never (pt_cmpR op_gt (pv 3) pe_int (nomark _))
        (pss_one (ps_par (i := 2) (j := 3) (by rfl) scCom.nd rfl rfl (by decide) rfl rfl (pa_cons (pv 3) (pa_cons (pe_op op_mod (pe_callTy call_int1 (by rfl) T.int (by decide +kernel) (pa_cons (pv 2) pa_nil)) (pv 3)) pa_nil)) (by rfl))))
      (pss_one (ps_ret (pv 2)))), ?_⟩
    refine ⟨_, rfl, x, rfl, _, rfl, y, rfl, _, _, rfl, ?_⟩
    refine while_by (fun σ H' => H' = H ∧ ∃ a b : Nat, σ = [some (.int x), some (.int y), some (.int (a : Int)), some (.int (b : Int))] ∧ Nat.gcd a b = Nat.gcd x.natAbs y.natAbs) muCommon ⟨rfl, x.natAbs, y.natAbs, by rw [abs_nat, abs_nat]; rfl, rfl⟩ ?_ (fun σ H Q Q' hq ⟨v, e, i, j, e1, e2, k, e3, q⟩ => ⟨v, e, i, j, e1, e2, k, e3, hq _ _ q⟩)
    rintro σ H' ⟨rfl, a, b, rfl, e⟩
    refine ⟨_, rfl, _, _, rfl, rfl, _, rfl, ?_⟩
    refine ite2 (fun hc => ?_) (fun hc => ?_)
    · have hb : (0 : Int) < (b : Int) := of_decide_eq_true hc
      refine ⟨_, rfl, _, rfl, .inl ⟨_, rfl, _, rfl, _, _, rfl, rfl, hb, _, _, rfl, ?_⟩⟩
      refine ⟨⟨rfl, b, a % b, by show [_, _, some (V.int (b : Int)), some (V.int ((a : Int) % (b : Int)))] = _; rw [Int.natCast_emod], ?_⟩, ?_⟩
      · rw [← e, Nat.gcd_comm a b, Nat.gcd_rec b a, Nat.gcd_comm]
      · show ((a : Int) % (b : Int)).toNat < (b : Int).toNat
        have h1 : (a : Int) % (b : Int) < (b : Int) := Int.emod_lt_of_pos _ hb
        have h2 : 0 ≤ (a : Int) % (b : Int) := Int.emod_nonneg _ (by omega)
        omega
    · have hb : ¬ (0 : Int) < (b : Int) := fun z => hc (decide_eq_true z)
      have hb0 : b = 0 := by omega
      subst hb0
      refine ⟨_, rfl, ?_⟩
      have e2 : a = Nat.gcd x.natAbs y.natAbs := by rw [← e, Nat.gcd_zero_right]
      rw [e2]
      exact q

def spLowest : Sp := fun vs H Q _ => ∃ u l : Int, vs = [.int u, .int l] ∧ l ≠ 0 ∧ l.natAbs < 2 ^ LIM ∧ ∀ p, H p = none → Q (.ref p) (upd H p (.tup [.int (nt u l), .int (nb u l)]))
theorem ok_lowest {f fC : Addr} {fd fdC : FuncData} (F : Fun K "_law_lowest" "_law_lowest" sLow f fd) (FC : Fun K "_law_common" "_law_common" sCom fC fdC) (bC : Binds K fdC ["_law_one", "_law_two"] []) (gC : mg "_law_common" = some (.ref fC)) (T : Blt mg) :
    FnOk P w K mg base CX0 2 f fd ["_law_upper", "_law_lower"] spLowest := by
  have GC : FnOk P w K mg base CX0 1 fC fdC ["_law_one", "_law_two"] spCommon := ok_common FC T
  refine F.ok scLow (fun vs H Q E h => ?_) (fun cdv A outer s H vs Q E hr h => ?_)
  · obtain ⟨u, l, rfl, _⟩ := h
    rfl
  · obtain ⟨u, l, rfl, h0, hb, q⟩ := h
    refine ⟨_, pss_cons (ps_set (i := 2) scLow.nd rfl (.inl rfl) (pe_ifExp (pt_cmpR op_gt (pv 1) pe_int (nomark _)) (pe_call GC hr (by rfl) gC FC.kp bC .nil pass0 (pa_cons (pv 0) (pa_cons (pv 1) pa_nil))) (pe_un un_neg (pe_call GC hr (by rfl) gC FC.kp bC .nil pass0 (pa_cons (pv 0) (pa_cons (pv 1) pa_nil))))))
      (pss_one (ps_ret (pe_tup (pa_cons (pe_op op_fdivZ (pv 0) (pv 2)) (pa_cons (pe_op op_fdivZ (pv 1) (pv 2)) pa_nil))))), ?_⟩
    have tail : tRet (tTup (tCons (tOp (rI CDivZ fun i j => V.int (i.fdiv j)) (tVar 0) (tVar 2)) (tCons (tOp (rI CDivZ fun i j => V.int (i.fdiv j)) (tVar 1) (tVar 2)) tNil))) { nx := fun _ H' => Q .non H', rt := Q } [some (.int u), some (.int l), some (.int (sg u l))] H := by
      have hz := sg_ok (u := u) h0 hb
      exact ⟨_, rfl, _, rfl, u, _, rfl, rfl, hz, _, rfl, _, rfl, l, _, rfl, rfl, hz, (by show 2 ≤ sizeLine; decide), fun p hp => q p hp⟩
    refine ⟨_, rfl, _, _, rfl, rfl, _, rfl, ?_⟩
    refine ite2 (fun hc => ?_) (fun hc => ?_)
    · have hl : 0 < l := of_decide_eq_true hc
      refine ⟨_, rfl, _, rfl, u, l, rfl, ?_⟩
      have e : sg u l = gI u l := if_neg (by omega)
      rw [e] at tail
      exact tail
    · have hl : ¬ 0 < l := fun z => hc (decide_eq_true z)
      refine ⟨_, rfl, _, rfl, u, l, rfl, _, rfl, ?_⟩
      have e : sg u l = -gI u l := if_pos (by omega)
      rw [e] at tail
      exact tail

/-! ### a whole number of up to forty digits -/
def Big : Int := 10000000000000000000000000000000000000000
def spWhole : Sp := fun vs H Q _ => ∃ a : Addr, vs = [.ref a] ∧ SrcAt H a ∧ ∀ n H', -Big < n → n < Big → SrcAt H' a → But a H H' → Q (.int n) H'
theorem ok_whole {f fD : Addr} {fd fdD : FuncData} (F : Fun K "_law_whole" "_law_whole" sWho f fd) (FD : Fun K "_law_draw" "_law_draw" sDraw fD fdD) (bD : Binds K fdD ["_law_source_here", "_law_many"] []) (gD : mg "_law_draw" = some (.ref fD)) (T : Blt mg) :
    FnOk P w K mg base CX0 2 f fd ["_law_source_here"] spWhole := by
  have GD : FnOk P w K mg base CX0 1 fD fdD ["_law_source_here", "_law_many"] spDraw := ok_draw FD T
  refine F.ok scWho (fun vs H Q E h => ?_) (fun cdv A outer s H vs Q E hr h => ?_)
  · obtain ⟨a, rfl, _⟩ := h
    rfl
  · obtain ⟨a, rfl, hs, q⟩ := h
    refine ⟨_, (pss_cons (ps_set (i := 1) scWho.nd rfl (.inl rfl) (pe_call GD hr (by rfl) gD FD.kp bD .nil pass0 (pa_cons (pv 0) (pa_cons pe_int pa_nil))))
      (pss_cons (ps_if (pt_cmpR op_lt (pv 1) pe_int (nomark _)) (pss_one (ps_ret (pe_op op_sub (pe_call GD hr (by rfl) gD FD.kp bD .nil pass0 (pa_cons (pv 0) (pa_cons pe_int pa_nil))) pe_int))) pss_nil)
      (pss_cons (ps_if (pt_cmpR op_lt (pv 1) pe_int (nomark _)) (pss_one (ps_ret (pe_op op_sub (pe_call GD hr (by rfl) gD FD.kp bD .nil pass0 (pa_cons (pv 0) (pa_cons pe_int pa_nil))) pe_int))) pss_nil)
      (pss_cons (ps_set (i := 2) scWho.nd rfl (.inl rfl) (pe_op op_sub pe_int (pe_op op_mul pe_int (pe_call GD hr (by rfl) gD FD.kp bD .nil pass0 (pa_cons (pv 0) (pa_cons pe_int pa_nil))))))
      (pss_cons (ps_if (pt_cmpR op_eq (pv 1) pe_int (nomark _)) (pss_one (ps_ret (pe_op op_mul (pv 2) (pe_op op_add (pe_ix ix_list (pe_lst (pa_cons (pe_op op_pow pe_int pe_int) (pa_cons (pe_op op_pow pe_int pe_int) (pa_cons (pe_op op_pow pe_int pe_int) (pa_cons (pe_op op_pow pe_int pe_int) pa_nil))))) (pe_call GD hr (by rfl) gD FD.kp bD .nil pass0 (pa_cons (pv 0) (pa_cons pe_int pa_nil))) (fun _ _ => rfl)) (pe_call GD hr (by rfl) gD FD.kp bD .nil pass0 (pa_cons (pv 0) (pa_cons pe_int pa_nil))))))) pss_nil)
      (pss_cons (ps_if (pt_cmpR op_eq (pv 1) pe_int (nomark _)) (pss_one (ps_ret (pe_op op_mul (pv 2) (pe_op op_sub (pe_op op_sub (pe_op op_pow pe_int pe_int) pe_int) (pe_call GD hr (by rfl) gD FD.kp bD .nil pass0 (pa_cons (pv 0) (pa_cons pe_int pa_nil))))))) pss_nil)
      (pss_cons (ps_set (i := 3) scWho.nd rfl (.inl rfl) (pe_lst (pa_cons (pe_call GD hr (by rfl) gD FD.kp bD .nil pass0 (pa_cons (pv 0) (pa_cons (pe_op op_pow pe_int pe_int) pa_nil))) (pa_cons (pe_call GD hr (by rfl) gD FD.kp bD .nil pass0 (pa_cons (pv 0) (pa_cons (pe_op op_pow pe_int pe_int) pa_nil))) (pa_cons (pe_call GD hr (by rfl) gD FD.kp bD .nil pass0 (pa_cons (pv 0) (pa_cons (pe_op op_pow pe_int pe_int) pa_nil))) pa_nil)))))
      (pss_one (ps_ret (pe_op op_mul (pv 2) (pe_op op_add (pe_op op_add (pe_op op_mul (pe_ix ix_list (pv 3) pe_int (fun _ _ => rfl)) (pe_op op_pow pe_int pe_int)) (pe_op op_mul (pe_ix ix_list (pv 3) pe_int (fun _ _ => rfl)) (pe_op op_pow pe_int pe_int))) (pe_ix ix_list (pv 3) pe_int (fun _ _ => rfl))))))))))))), ?_⟩
    have D9 : (9 : Int) ≤ 100000000000000000000 := by decide
    refine ⟨_, rfl, a, 9, rfl, (by decide), (by decide), hs, fun d H1 d0 d1 s1 k1 => ?_⟩
    refine ⟨_, rfl, _, _, rfl, rfl, _, rfl, ?_⟩
    refine ite2 (fun _ => ?_) (fun _ => ?_)
    · refine ⟨_, rfl, a, 25, rfl, (by decide), (by decide), s1, fun e H2 e0 e1 s2 k2 => ⟨_, _, rfl, rfl, q _ _ (by unfold Big; omega) (by unfold Big; omega) s2 (k1.trans k2)⟩⟩
    refine ⟨_, rfl, _, _, rfl, rfl, _, rfl, ?_⟩
    refine ite2 (fun _ => ?_) (fun _ => ?_)
    · refine ⟨_, rfl, a, 2001, rfl, (by decide), (by decide), s1, fun e H2 e0 e1 s2 k2 => ⟨_, _, rfl, rfl, q _ _ (by unfold Big; omega) (by unfold Big; omega) s2 (k1.trans k2)⟩⟩
    refine ⟨_, rfl, a, 2, rfl, (by decide), (by decide), s1, fun e H2 e0 e1 s2 k2 => ⟨2, e, rfl, rfl, .inl ⟨by decide, by decide⟩, 1, _, rfl, rfl, ?_⟩⟩
    have he : e = 0 ∨ e = 1 := by omega
    refine ⟨_, rfl, rfl, _, rfl, ?_⟩
    refine ite2 (fun _ => ?_) (fun _ => ?_)
    · refine ⟨_, rfl, 10, 6, rfl, rfl, ⟨by decide, by decide, by decide⟩, 10, 12, rfl, rfl, ⟨by decide, by decide, by decide⟩, 10, 20, rfl, rfl, ⟨by decide, by decide, by decide⟩, 10, 39, rfl, rfl, ⟨by decide, by decide, by decide⟩, (by show 4 ≤ sizeLine; decide), fun l hl => ?_⟩
      have s3 : SrcAt (upd H2 l (.lst [.int (10 ^ 6), .int (10 ^ 12), .int (10 ^ 20), .int (10 ^ 39)])) a := by
        obtain ⟨x, y, z, es⟩ := s2
        exact ⟨x, y, z, by rw [upd_ne (ne_of_none es hl)]; exact es⟩
      have nla : l ≠ a := (s2.ne hl).symm
      refine ⟨_, rfl, a, 4, rfl, (by decide), (by decide), s3, fun d2 H3 f0 f1 s4 k4 => ?_⟩
      have hl3 := k4 l _ nla upd_same
      obtain ⟨v, hv, v0, v1⟩ : ∃ v : Int, atI [V.int (10 ^ 6), V.int (10 ^ 12), V.int (10 ^ 20), V.int (10 ^ 39)] d2 = some (.int v) ∧ 0 ≤ v ∧ v ≤ 10 ^ 39 := by
        have : d2 = 0 ∨ d2 = 1 ∨ d2 = 2 ∨ d2 = 3 := by omega
        rcases this with rfl | rfl | rfl | rfl
        · exact ⟨_, rfl, by decide, by decide⟩
        · exact ⟨_, rfl, by decide, by decide⟩
        · exact ⟨_, rfl, by decide, by decide⟩
        · exact ⟨_, rfl, by decide, by decide⟩
      refine ⟨l, _, d2, _, rfl, rfl, SqL.of hl3, hv, _, rfl, a, 1000, rfl, (by decide), (by decide), s4, fun d3 H4 g0 g1 s5 k5 => ⟨_, _, rfl, rfl, _, _, rfl, rfl, .inl ⟨by omega, by omega⟩, ?_⟩⟩
      refine q _ _ ?_ ?_ s5 (((k1.trans k2).new hl).trans (k4.trans k5))
      · unfold Big
        rcases he with rfl | rfl <;> omega
      · unfold Big
        rcases he with rfl | rfl <;> omega
    refine ⟨_, rfl, rfl, _, rfl, ?_⟩
    refine ite2 (fun _ => ?_) (fun _ => ?_)
    · refine ⟨_, rfl, 10, 40, rfl, rfl, ⟨by decide, by decide, by decide⟩, _, _, rfl, rfl, _, rfl, a, 1000, rfl, (by decide), (by decide), s2, fun d3 H4 g0 g1 s5 k5 => ⟨_, _, rfl, rfl, _, _, rfl, rfl, .inl ⟨by omega, by omega⟩, ?_⟩⟩
      have e40 : (10 : Int) ^ (40 : Int).toNat = 10000000000000000000000000000000000000000 := by decide
      refine q _ _ ?_ ?_ s5 ((k1.trans k2).trans k5)
      · show -Big < (1 - 2 * e) * ((10 : Int) ^ (40 : Int).toNat - 7 - d3)
        rw [e40]
        unfold Big
        rcases he with rfl | rfl <;> omega
      · show (1 - 2 * e) * ((10 : Int) ^ (40 : Int).toNat - 7 - d3) < Big
        rw [e40]
        unfold Big
        rcases he with rfl | rfl <;> omega
    have e9 : (10 : Int) ^ (9 : Int).toNat = 1000000000 := by decide
    have e30 : (10 : Int) ^ (30 : Int).toNat = 1000000000000000000000000000000 := by decide
    have e15 : (10 : Int) ^ (15 : Int).toNat = 1000000000000000 := by decide
    refine ⟨_, rfl, 10, 9, rfl, rfl, ⟨by decide, by decide, by decide⟩, a, _, rfl, (by decide), (by decide), s2, fun x H4 x0 x1 s4 k4 => ?_⟩
    refine ⟨_, rfl, 10, 9, rfl, rfl, ⟨by decide, by decide, by decide⟩, a, _, rfl, (by decide), (by decide), s4, fun y H5 y0 y1 s5 k5 => ?_⟩
    refine ⟨_, rfl, 10, 9, rfl, rfl, ⟨by decide, by decide, by decide⟩, a, _, rfl, (by decide), (by decide), s5, fun z H6 z0 z1 s6 k6 => ⟨(by show 3 ≤ sizeLine; decide), fun l hl => ?_⟩⟩
    rw [e9] at x1 y1 z1
    refine ⟨_, rfl, _, rfl, l, [.int x, .int y, .int z], 0, .int x, rfl, rfl, SqL.of upd_same, (by rfl), 10, 30, rfl, rfl, ⟨by decide, by decide, by decide⟩, _, _, rfl, rfl, .inl ⟨by omega, by omega⟩,
      _, rfl, l, [.int x, .int y, .int z], 1, .int y, rfl, rfl, SqL.of upd_same, (by rfl), 10, 15, rfl, rfl, ⟨by decide, by decide, by decide⟩, _, _, rfl, rfl, .inl ⟨by omega, by omega⟩, _, _, rfl, rfl,
      _, rfl, l, [.int x, .int y, .int z], 2, .int z, rfl, rfl, SqL.of upd_same, (by rfl), _, _, rfl, rfl, _, _, rfl, rfl, .inl ⟨by omega, by omega⟩, ?_⟩
    refine q _ _ ?_ ?_ ?_ (((((k1.trans k2).trans k4).trans k5).trans k6).new hl)
    · show -Big < (1 - 2 * e) * (x * (10 : Int) ^ (30 : Int).toNat + y * (10 : Int) ^ (15 : Int).toNat + z)
      rw [e30, e15]
      unfold Big
      rcases he with rfl | rfl <;> omega
    · show (1 - 2 * e) * (x * (10 : Int) ^ (30 : Int).toNat + y * (10 : Int) ^ (15 : Int).toNat + z) < Big
      rw [e30, e15]
      unfold Big
      rcases he with rfl | rfl <;> omega
    · obtain ⟨u1, u2, u3, es⟩ := s6
      exact ⟨u1, u2, u3, by rw [upd_ne (ne_of_none es hl)]; exact es⟩
end

/-! ### a fraction as a pair -/
section
variable {P : Program} {w : World} {K : PySem.W.Frag} {mg : Str → Option Value} {base : Heap} {C : Addr}
theorem RQ.but {H H' : Hp} {a p : Addr} {n : Nat} {q : Rat} (r : RQ C H p n q) (h : SrcAt H a) (k : But a H H') : RQ C H' p n q := by
  obtain ⟨⟨dx, e⟩, s⟩ := r
  obtain ⟨x, y, z, es⟩ := h
  exact ⟨⟨dx, k p _ (fun z => by rw [z, es] at e; cases e) e⟩, s⟩
theorem SrcAt.same {H H' : Hp} {a : Addr} (h : SrcAt H a) (s : Same H H') : SrcAt H' a := let ⟨x, y, z, e⟩ := h; ⟨x, y, z, s _ _ e⟩
theorem But.same {H H1 H2 : Hp} {a : Addr} (k : But a H H1) (s : Same H1 H2) : But a H H2 := fun b o n e => s b o (k b o n e)
theorem tup_but {H H' : Hp} {a p : Addr} {xs : List V} (e : H p = some (.tup xs)) (h : SrcAt H a) (k : But a H H') : H' p = some (.tup xs) := by
  obtain ⟨x, y, z, es⟩ := h
  exact k p _ (fun z => by rw [z, es] at e; cases e) e
theorem lst_but {H H' : Hp} {a p : Addr} {o : HO} (e : H p = some o) (n : p ≠ a) (k : But a H H') : H' p = some o := k p _ n e
def PN : Nat := 133
theorem big_pn {n : Int} (h0 : -Big < n) (h1 : n < Big) : n.natAbs < 2 ^ PN := by
  have : n.natAbs < 10000000000000000000000000000000000000000 := by unfold Big at h0 h1; omega
  exact Nat.lt_of_lt_of_le this (by decide)
def spPair : Sp := fun vs H Q _ => ∃ a : Addr, vs = [.ref a] ∧ SrcAt H a ∧ ∀ q p H', Sz PN q → H' p = some (.tup [.int q.num, .int (q.den : Int)]) → SrcAt H' a → But a H H' → Q (.ref p) H'
theorem ok_pair (T : Tx K mg C) : FnOk P w K mg base CX0 3 T.aPair T.dPair ["_law_source_here"] spPair := by
  have GD : FnOk P w K mg base CX0 2 T.aDraw T.dDraw ["_law_source_here", "_law_many"] spDraw := (ok_draw T.FDraw T.blt).mono (by decide)
  have GW : FnOk P w K mg base CX0 2 T.aWho T.dWho ["_law_source_here"] spWhole := ok_whole T.FWho T.FDraw T.bDraw T.gDraw T.blt
  have GL : FnOk P w K mg base CX0 2 T.aLow T.dLow ["_law_upper", "_law_lower"] spLowest := ok_lowest T.FLow T.FCom T.bCom T.gCom T.blt
  refine T.FPair.ok scPair (fun vs H Q E h => ?_) (fun cdv A outer s H vs Q E hr h => ?_)
  · obtain ⟨a, rfl, _⟩ := h
    rfl
  · obtain ⟨a, rfl, hs, q⟩ := h
    refine ⟨_, (pss_cons (ps_set (i := 1) scPair.nd rfl (.inl rfl) (pe_call GD hr (by rfl) T.gDraw T.FDraw.kp T.bDraw .nil pass0 (pa_cons (pv 0) (pa_cons pe_int pa_nil))))
      (pss_cons (ps_if (pt_cmpR op_eq (pv 1) pe_int (nomark _)) (pss_one (ps_ret (pe_tup (pa_cons (pe_call GW hr (by rfl) T.gWho T.FWho.kp T.bWho .nil pass0 (pa_cons (pv 0) pa_nil)) (pa_cons pe_int pa_nil))))) pss_nil)
      (pss_cons (ps_if (pt_cmpR op_eq (pv 1) pe_int (nomark _)) (pss_cons (ps_set (i := 2) scPair.nd rfl (.inl rfl) (pe_call GW hr (by rfl) T.gWho T.FWho.kp T.bWho .nil pass0 (pa_cons (pv 0) pa_nil)))
        (pss_one (ps_ret (pe_call GL hr (by rfl) T.gLow T.FLow.kp T.bLow .nil pass0 (pa_cons (pe_call GW hr (by rfl) T.gWho T.FWho.kp T.bWho .nil pass0 (pa_cons (pv 0) pa_nil)) (pa_cons (pe_ifExp (pt_cmpR op_ne (pv 2) pe_int (nomark _)) (pv 2) pe_int) pa_nil)))))) pss_nil)
      (pss_one (ps_ret (pe_call GL hr (by rfl) T.gLow T.FLow.kp T.bLow .nil pass0 (pa_cons (pe_op op_sub (pe_call GD hr (by rfl) T.gDraw T.FDraw.kp T.bDraw .nil pass0 (pa_cons (pv 0) (pa_cons pe_int pa_nil))) pe_int) (pa_cons (pe_op op_add pe_int (pe_call GD hr (by rfl) T.gDraw T.FDraw.kp T.bDraw .nil pass0 (pa_cons (pv 0) (pa_cons pe_int pa_nil)))) pa_nil)))))))), ?_⟩
    have low : ∀ {u l : Int} {H1 : Hp}, u.natAbs < 2 ^ PN → l.natAbs < 2 ^ PN → l ≠ 0 → SrcAt H1 a → But a H H1 → spLowest [.int u, .int l] H1 Q E0 := fun {u l H1} hu hl h0 s1 k1 => by
      refine ⟨u, l, rfl, h0, Nat.lt_of_lt_of_le hl (two_le (by decide)), fun p hp => ?_⟩
      rw [nt_rat h0, nb_rat h0]
      exact q _ p _ (Sz.of h0 hu hl) upd_same (s1.same (same_new (Same.refl _) hp)) (k1.new hp)
    refine ⟨_, rfl, a, 4, rfl, (by decide), (by decide), hs, fun d H1 d0 d1 s1 k1 => ?_⟩
    refine ⟨_, rfl, rfl, _, rfl, ?_⟩
    refine ite2 (fun _ => ?_) (fun _ => ?_)
    · refine ⟨_, rfl, a, rfl, s1, fun n H2 n0 n1 s2 k2 => ⟨(by show 2 ≤ sizeLine; decide), fun p hp => ?_⟩⟩
      exact q (n : Rat) p _ (Sz.int (big_pn n0 n1) (by decide)) upd_same (s2.same (same_new (Same.refl _) hp)) ((k1.trans k2).new hp)
    refine ⟨_, rfl, rfl, _, rfl, ?_⟩
    refine ite2 (fun _ => ?_) (fun _ => ?_)
    · refine ⟨_, rfl, a, rfl, s1, fun n H2 n0 n1 s2 k2 => ?_⟩
      refine ⟨_, rfl, a, rfl, s2, fun m H3 m0 m1 s3 k3 => ?_⟩
      refine ⟨_, rfl, rfl, _, rfl, ?_⟩
      refine ite2 (fun hc => ?_) (fun hc => ?_)
      · have hn : n ≠ 0 := fun z => by rw [z] at hc; exact absurd hc (by decide)
        exact ⟨_, rfl, low (big_pn m0 m1) (big_pn n0 n1) hn s3 ((k1.trans k2).trans k3)⟩
      · exact low (big_pn m0 m1) (by decide) (by decide) s3 ((k1.trans k2).trans k3)
    refine ⟨_, rfl, a, 61, rfl, (by decide), (by decide), s1, fun e H2 e0 e1 s2 k2 => ⟨_, _, rfl, rfl, ?_⟩⟩
    refine ⟨_, rfl, a, 12, rfl, (by decide), (by decide), s2, fun g H3 g0 g1 s3 k3 => ⟨_, _, rfl, rfl, ?_⟩⟩
    exact low (big_pn (by unfold Big; omega) (by unfold Big; omega)) (big_pn (by unfold Big; omega) (by unfold Big; omega)) (by omega) s3 ((k1.trans k2).trans k3)
end
end T07

/-! The class of series, def by def. -/
namespace T07
open PySem PySem.Spec PyProof.Rows L2 SF SQ SK
section
variable {P : Program} {w : World} {K : PySem.W.Frag} {mg : Str → Option Value} {base : Heap} {C : Addr}
def spSI (C S : Addr) : Sp := fun vs H Q _ => ∃ p t dx rs, vs = [.ref p, .ref t] ∧ H p = some (.ins S dx []) ∧ TupG C PN H t rs ∧ rs.length ≤ 400 ∧ ∀ H1 t', Same H H1 → TupE C PN H1 t' rs → Q .non (upd H1 p (.ins S dx (sf1 t')))
theorem line400 : 400 ≤ sizeLine := by decide
theorem gn_kind {H : Hp} {v : V} {r : Ent} (h : GN C PN H v r) (hv : decide (v = .non) = false) : ∃ q k, r = some q ∧ NV C H k v PN q := by
  cases r with
  | none =>
    have h : v = .non := h
    rw [h] at hv
    exact absurd hv (by decide)
  | some q => obtain ⟨k, x⟩ := h; exact ⟨q, k, rfl, x⟩
theorem ok_SI (T : Tx K mg C) : FnOk P w K mg base CX0 5 T.aSI T.dSI ["self", "entries"] (spSI C T.S) := by
  have GN' : FnOk P w K mg base CX0 2 T.aIsN T.dIsN ["value"] (spIsN C) := ok_isN T
  have GA : FnOk P w K mg base CX0 4 T.aAs T.dAs ["number"] (spAs C) := ok_as T
  refine T.FSI.ok scSI (fun vs H Q E h => ?_) (fun cdv A outer s H vs Q E hr h => ?_)
  · obtain ⟨p, t, dx, rs, rfl, _⟩ := h
    rfl
  · obtain ⟨p, t, dx, rs, rfl, hp, ⟨vs, ht, hv⟩, hl, q⟩ := h
    have hr2 := hr.mono (show 2 ≤ 4 by decide)
    have ll := line400
    refine ⟨_, PSs.nox (pss_cons (ps_if (pt_not (pt_val (pe_callB call_isi (by rfl) T.rc.isi (by decide +kernel) (pa_cons (pv 1) (pa_cons (pe_bltn (v := .ty "tuple") (u := .type "tuple") (by rfl) T.tup (by decide +kernel) rfl) pa_nil))))) (pss_one ps_never) pss_nil)
      (pss_cons (ps_for PassesOwn.never rfl (pi_tup (pv 1)) (pg_name (i := 2) scSI.nd rfl (.inl rfl)) (pss_one (ps_if (PW.pt (pw_and (pt_cmpR op_notN (pv 2) pe_non (nomark _)) (pw_and1 (pt_not (pt_val (pe_call GN' hr2 (by rfl) T.gIsN T.FIsN.kp T.bIsN .nil pass0 (pa_cons (pv 2) pa_nil))))))) (pss_one ps_never) pss_nil)))
      (pss_one (ps_fld (pv 0) (pe_callTy call_tuple_of (by rfl) T.tup (by decide +kernel) (pa_cons (pe_lc (own := [("entry", 2)]) (g := gName 2) (tt := tYes) rfl scSI.nd (pi_tup (pv 1)) (blkOk_by (N := ["self", "entries", "entry"]) (sc := defScope sSI) (by decide +kernel)) (fun _ _ _ _ _ => pg_name (i := 2) scSI.nd rfl (Or.inl rfl)) (fun _ _ _ _ _ => pts_nil)
        (fun _ _ _ _ _ => pe_ifExp (pt_cmpR op_isN (pv 2) pe_non (nomark _)) pe_non (pe_call GA hr (by rfl) T.gAs T.FAs.kp T.bAs .nil pass0 (pa_cons (pv 2) pa_nil)))) pa_nil)) rfl)))), ?_⟩
    refine ⟨_, rfl, _, _, _, _, true, rfl, .ty _, (Dec.tup ht).typ, kit_ty (by decide +kernel), true, rfl, iteF ?_⟩
    refine ⟨_, rfl, t, rfl, ⟨_, SqT.of ht⟩, for_tup (xs := vs) (fun i σ' H' => H' = H ∧ ∃ o, σ' = [some (.ref p), some (.ref t), o]) ⟨rfl, _, rfl⟩ (fun i σ' H' _ hh => by rw [hh.1]; exact SqT.of ht) ?_ ?_⟩
    · rintro i x σ' H' hx ⟨rfl, o, rfl⟩
      obtain ⟨r, hr', gx⟩ := hv.get hx
      refine ⟨_, rfl, rfl, _, rfl, ?_⟩
      refine ite2 (fun hc => ?_) (fun _ => ⟨rfl, _, rfl⟩)
      have hc : decide (x = .non) = false := by simpa using hc
      obtain ⟨q1, k, rfl, nv⟩ := gn_kind gx hc
      refine ⟨_, rfl, x, rfl, ?_⟩
      rcases nv.kind with h | ⟨j, rfl⟩
      · exact .inr ⟨h, _, rfl, iteF ⟨rfl, _, rfl⟩⟩
      · exact .inl ⟨_, .int j, _, rfl, iteF ⟨rfl, _, rfl⟩⟩
    · rintro σ' H' ⟨rfl, o, rfl⟩
      refine ⟨_, rfl, t, rfl, ⟨_, SqT.of ht⟩, fun D hD => lcS_tup (P := fun i y H => ∃ r, rs[i]? = some r ∧ EN C PN H y r) ?_ ?_ (SqT.of ht) (by rw [hv.1]; omega) hD ?_ ?_⟩
      · rintro k y H1 H2 S ⟨r, h1, h2⟩; exact ⟨r, h1, h2.same S⟩
      · rintro k y H1 D1 xs zs hd ⟨r, h1, h2⟩; exact ⟨r, h1, h2.offL hd⟩
      · intro i x H1 Q1 hx S1 z
        obtain ⟨r, hr', gx⟩ := hv.get hx
        refine ⟨_, rfl, rfl, _, rfl, ?_⟩
        refine ite2 (fun hc => ?_) (fun hc => ?_)
        · have e : x = .non := of_decide_eq_true hc
          cases r with
          | none => exact z .non H1 (Same.refl _) ⟨none, hr', rfl⟩
          | some q1 =>
            obtain ⟨k, nv⟩ := gx
            subst e
            rcases nv.kind with ⟨a, dx, fs, e, _⟩ | ⟨i, e⟩ <;> cases e
        · obtain ⟨q1, k, rfl, nv⟩ := gn_kind (gx.same S1) (by simpa using hc)
          exact ⟨_, rfl, x, k, PN, q1, rfl, nv, (by decide), fun a H' S' rq => z _ _ S' ⟨some q1, hr', a, rfl, rq⟩⟩
      · intro H1 ys S1 hys hyl hP
        refine ⟨D, _, rfl, .inl ⟨SqL.of hys, fun t' nt' => ?_⟩⟩
        generalize hE : upd H1 t' _ = H2
        have ht' := upd_got hE
        have st := upd_stay hE nt'
        refine ⟨_, rfl, p, T.S, dx, [], rfl, (S1.trans st) _ _ hp, T.clS, T.nE, (by show 0 < 1000; decide), ?_⟩
        refine q H2 t' (S1.trans st) ⟨ys, ht', by rw [hyl, hv.1], fun i v r hv1 hr1 => ?_⟩
        obtain ⟨r', e1, e2⟩ := hP i v hv1
        rw [hr1] at e1
        cases e1
        exact e2.same st
end
end T07

/-! The class of series: its getters, length, ==, texts. -/
namespace T07
open PySem PySem.Spec PyProof.Rows L2 SF SQ SK
section
variable {P : Program} {w : World} {K : PySem.W.Frag} {mg : Str → Option Value} {base : Heap} {C : Addr}
theorem ok_SEnt (T : Tx K mg C) : FnOk P w K mg base CX0 1 T.aSEnt T.dSEnt ["self"] (getSp T.S "_entries") := by
  obtain ⟨oc, od, kV, doc, pm, an, cdv, ct, osl, e, lk, hcd⟩ := T.FSEnt.ex
  rw [e] at lk ⊢
  exact fn_getter lk hcd scSEnt rfl rfl T.clS T.nE
theorem n_sub {H : Hp} {C : Addr} {n : Nat} {S dx a t : Addr} {rs : List Ent} (h : H a = some (.ins S dx (sf1 t))) : (sf1 t).lookup ("_entries" : Str) = some (V.ref t) := by
  unfold sf1
  simp [putF]
theorem ent_look (t : Addr) : (sf1 t).lookup ("_entries" : Str) = some (V.ref t) := by
  unfold sf1
  simp [putF]
def spSMis (C S : Addr) : Sp := fun vs H Q _ => ∃ a rs, vs = [.ref a] ∧ SerAt C S PN H a rs ∧ ∀ t H', Same H H' → H' t = some (.tup (gapV rs)) → Q (.ref t) H'
theorem ok_SMis (T : Tx K mg C) : FnOk P w K mg base CX0 1 T.aSMis T.dSMis ["self"] (spSMis C T.S) := by
  refine T.FSMis.ok scSMis (fun vs H Q E h => ?_) (fun cdv A outer s H vs Q E hr h => ?_)
  · obtain ⟨a, rs, rfl, _⟩ := h
    rfl
  · obtain ⟨a, rs, rfl, hs, q⟩ := h
    obtain ⟨dx, t, ha, ⟨vs, ht, hv⟩, hl⟩ := hs.tup
    have ll := line400
    refine ⟨_, (pss_one (ps_ret (pe_callTy call_tuple_of (by rfl) T.tup (by decide +kernel) (pa_cons (pe_lc (own := [("place", 1), ("entry", 2)]) (g := gTup K 2 (gCons (gName 1) (gCons (gName 2) gNil))) (tt := tTest (tOp (fun x y H Q => y = .non ∧ Q (.bl (decide (x = .non))) H) (tVar 2) (tC .non))) rfl scSMis.nd (pi_enumT (by rfl) T.enum (pa_cons (pe_fld (pv 0) rfl) pa_nil)) (blkOk_by (N := ["self", "place", "entry"]) (sc := defScope sSMis) (by decide +kernel))
      (fun _ _ _ _ _ => pg_tup rfl (pgs_cons (pg_name (i := 1) scSMis.nd rfl (Or.inl rfl)) (pgs_cons (pg_name (i := 2) scSMis.nd rfl (Or.inl rfl)) pgs_nil))) (fun _ _ _ _ _ => pts_one (pt_cmpR op_isN (pv 2) pe_non (nomark _))) (fun _ _ _ _ _ => pv 1)) pa_nil)))), ?_⟩
    refine ⟨_, rfl, a, T.S, dx, _, _, rfl, ha, T.clS, T.nE, ent_look t, t, vs, rfl, SqT.of ht, fun D hD => lc_enumT (xs := vs) (fun i J => Same H J ∧ J D = some (.lst ((gapsTo rs i).map fun k => V.int (k : Nat)))) ⟨same_new (Same.refl _) hD, upd_same⟩ (fun i J hh => SqT.of (hh.1 _ _ ht)) ?_ ?_⟩
    · rintro i x T1 J hx ⟨S1, e1⟩ hT
      obtain ⟨r, hr', ex⟩ := hv.get hx
      have hi : i < rs.length := (List.getElem?_eq_some_iff.mp hr').1
      refine ⟨T1, _, rfl, SqT.of upd_same, rfl, _, _, rfl, _, _, rfl, rfl, ⟨rfl, ?_⟩⟩
      have S2 : Same J (upd J T1 (.tup [.int (i : Nat), x])) := same_new (Same.refl _) hT
      have gl := gaps_len rs i
      refine ⟨_, rfl, rfl, _, rfl, ?_⟩
      have st := gaps_step rs i
      refine ite2 (fun hc => ?_) (fun hc => ?_)
      · have e : x = .non := of_decide_eq_true hc
        have er : r = none := by
          cases r with
          | none => rfl
          | some q1 => obtain ⟨b, e2, _⟩ := ex; rw [e] at e2; cases e2
        subst er
        rw [if_pos hr'] at st
        refine ⟨_, rfl, _, S2 _ _ e1, by rw [List.length_map]; omega, fun b o hb => ?_, ?_⟩
        · rw [upd_ne (ne_of_none hb hD)]
          exact S2 _ _ (S1 _ _ hb)
        · rw [upd_same, st, List.map_append]
          rfl
      · have er : rs[i]? ≠ some none := by
          intro z
          rw [hr'] at z
          cases z
          exact hc (decide_eq_true ex)
        rw [if_neg er, List.append_nil] at st
        exact ⟨S1.trans S2, by rw [st]; exact S2 _ _ e1⟩
    · rintro J ⟨S1, e1⟩
      rw [hv.1] at e1
      refine ⟨D, _, rfl, .inl ⟨SqL.of e1, fun t' nt' => ?_⟩⟩
      generalize hE : upd J t' _ = H2
      exact q t' H2 (S1.trans (upd_stay hE nt')) (upd_got hE)
def spSLen (C S : Addr) : Sp := fun vs H Q _ => ∃ a rs, vs = [.ref a] ∧ SerAt C S PN H a rs ∧ Q (.int (rs.length : Nat)) H
theorem ok_SLen (T : Tx K mg C) : FnOk P w K mg base CX0 1 T.aSLen T.dSLen ["self"] (spSLen C T.S) := by
  refine T.FSLen.ok scSLen (fun vs H Q E h => ?_) (fun cdv A outer s H vs Q E hr h => ?_)
  · obtain ⟨a, rs, rfl, _⟩ := h
    rfl
  · obtain ⟨a, rs, rfl, hs, q⟩ := h
    obtain ⟨dx, t, ha, ⟨vs, ht, hv⟩, hl⟩ := hs.tup
    refine ⟨_, (pss_one (ps_ret (pe_callB call_len_seq (by rfl) T.len (by decide +kernel) (pa_cons (pe_fld (pv 0) rfl) pa_nil)))), ?_⟩
    refine ⟨_, rfl, a, T.S, dx, _, _, rfl, ha, T.clS, T.nE, ent_look t, t, vs, rfl, .inr (SqT.of ht), ?_⟩
    rw [hv.1]
    exact q
/-! ### == -/
theorem all_ent (rs rs' : List Ent) : SK.allB (fun i => decide (rs[i]? = rs'[i]?)) rs.length rs'.length = decide (rs = rs') := by
  unfold SK.allB
  by_cases h : rs = rs'
  · subst h
    simp
  · rw [decide_eq_false h]
    by_cases hl : rs.length = rs'.length
    · rw [Bool.and_eq_false_iff]
      left
      rw [Bool.eq_false_iff]
      intro hall
      apply h
      rw [List.all_eq_true] at hall
      refine List.ext_getElem? fun i => ?_
      by_cases hi : i < rs.length
      · exact of_decide_eq_true (hall i (List.mem_range.mpr (by omega)))
      · rw [List.getElem?_eq_none (by omega), List.getElem?_eq_none (by omega)]
    · simp [hl]
theorem rows_ent {H : Hp} {vs vs' : List V} {rs rs' : List Ent} (h : All2 (EN C PN H) vs rs) (h' : All2 (EN C PN H) vs' rs') : Rows (DEnt C PN) (fun i => decide (rs[i]? = rs'[i]?)) vs vs' H := by
  intro i x y hx hy
  obtain ⟨r, e1, e2⟩ := h.get hx
  obtain ⟨r', e1', e2'⟩ := h'.get hy
  exact ⟨r, r', e2, e2', by dsimp only; rw [e1, e1']; simp⟩
def DEq (T : Tx K mg C) : Df P w K mg base 3 ["self", "other"] (spEq C) := ⟨_, _, ok_Eq T, T.bEq⟩
theorem op_ents {X : Cx} (T : Tx X.K X.mg C) (hr : Room 4 X.A) : OpR X (compareOp .Eq) (rTupB X.K (DEnt C PN)) := op_tupB DEnt.same (eqB_ent T.rc (T.cS.dn _ (by decide)) T.cS.up (DEq T) T.hEq) hr
def spSEq (C S : Addr) : Sp := fun vs H Q _ => ∃ a y rs, vs = [.ref a, y] ∧ SerAt C S PN H a rs ∧ ((∃ b rs', y = .ref b ∧ SerAt C S PN H b rs' ∧ ∀ H', Same H H' → Q (.bl (decide (rs = rs'))) H') ∨ ∃ T, Dec H y T ∧ Q (.bl false) H)
theorem ser_ins {H : Hp} {S a : Addr} {rs : List Ent} (h : SerAt C S PN H a rs) : ∃ dx fs, H a = some (.ins S dx fs) := let ⟨dx, t, vs, e, _⟩ := h; ⟨dx, _, e⟩
theorem ok_SEq (T : Tx K mg C) : FnOk P w K mg base CX0 5 T.aSEq T.dSEq ["self", "other"] (spSEq C T.S) := by
  have GE : FnOk P w K mg base CX0 1 T.aSEnt T.dSEnt ["self"] (getSp T.S "_entries") := ok_SEnt T
  refine T.FSEq.ok scSEq (fun vs H Q E h => ?_) (fun cdv A outer s H vs Q E hr h => ?_)
  · obtain ⟨a, y, rs, rfl, _⟩ := h
    rfl
  · obtain ⟨a, y, rs, rfl, hs, h⟩ := h
    have hr2 := hr.mono (show 2 ≤ 4 by decide)
    obtain ⟨dx, t, ha, ⟨vs, ht, hv⟩, hl⟩ := hs.tup
    refine ⟨_, (pss_one (ps_ret (pe_and (pe_callB call_isi (by rfl) T.rc.isi (by decide +kernel) (pa_cons (pv 1) (pa_cons (pe_glob (v := .ref T.S) (by rfl) T.gS rfl) pa_nil))) (pe_one (pe_cmpR (op_ents T hr) (pe_fld (pv 0) rfl) (pe_prop (E := E0) (pv 1) T.clS T.PSEnt GE hr2 T.bSEnt .nil pass0 rfl) (nomark _)))))), ?_⟩
    rcases h with ⟨b, rs', rfl, hs', q⟩ | ⟨tb, d, q⟩
    · obtain ⟨dx', t', hb, ⟨vs', ht', hv'⟩, hl'⟩ := hs'.tup
      refine ⟨_, rfl, .ref b, .ref T.S, .ref T.S, .ref T.S, true, rfl, .own T.S, .base (.ins hb T.clS T.sk.ca T.sk.cn T.sk.ct T.sk.cm), T.sk.kS, true, rfl, iteT ?_⟩
      refine ⟨_, rfl, a, T.S, dx, _, _, rfl, ha, T.clS, T.nE, ent_look t, _, rfl, b, dx', _, rfl, hb, b, dx', _, _, rfl, hb, ent_look t', ?_⟩
      refine ⟨t, t', vs, vs', _, rfl, rfl, SqT.of ht, SqT.of ht', rows_ent hv hv', fun H' S => ?_⟩
      rw [hv.1, hv'.1, all_ent]
      exact q H' S
    · exact ⟨_, rfl, y, .ref T.S, .type tb, .ref T.S, false, rfl, .own T.S, d.typ, T.sk.kB _ d.mem, false, rfl, iteF q⟩
end
end T07

/-! The class of series: texts, reading, making. -/
namespace T07
open PySem PySem.Spec PyProof.Rows L2 SF SQ SK
section
variable {P : Program} {w : World} {K : PySem.W.Frag} {mg : Str → Option Value} {base : Heap} {C : Addr}
theorem SzE.mono {n m : Nat} {rs : List Ent} (h : SzE n rs) (hn : n ≤ m) : SzE m rs := fun q e => (h q e).mono hn
theorem EN.sz {H : Hp} {vs : List V} {rs : List Ent} (h : All2 (EN C PN H) vs rs) : SzE PN rs := by
  intro q hq
  obtain ⟨i, hi, e⟩ := List.getElem_of_mem hq
  have hi' : i < vs.length := by rw [h.1]; exact hi
  obtain ⟨a, _, x⟩ := h.2 i vs[i] (some q) (List.getElem?_eq_getElem hi') (by rw [List.getElem?_eq_getElem hi, e])
  exact x.2
theorem line_big : 210000 ≤ sizeLine := by decide
theorem big_line : sizeLine ≤ 16777216 ∨ 16777216 ≤ sizeLine := Nat.le_total _ _
def spSStr (C S : Addr) : Sp := fun vs H Q _ => ∃ a rs, vs = [.ref a] ∧ SerAt C S PN H a rs ∧ ∀ H', Same H H' → Q (.str (line rs)) H'
theorem ok_SStr (T : Tx K mg C) : FnOk P w K mg base CX0 4 T.aSStr T.dSStr ["self"] (spSStr C T.S) := by
  have GT : FnOk P w K mg base CX0 1 T.aStr T.dStr ["self"] (spStr C) := ok_Str T
  refine T.FSStr.ok scSStr (fun vs H Q E h => ?_) (fun cdv A outer s H vs Q E hr h => ?_)
  · obtain ⟨a, rs, rfl, _⟩ := h
    rfl
  · obtain ⟨a, rs, rfl, hs, q⟩ := h
    obtain ⟨dx, t, ha, ⟨vs, ht, hv⟩, hl⟩ := hs.tup
    have ll := line400
    have sz : SzE 800 rs := SzE.mono (EN.sz hv) (by decide)
    refine ⟨_, (pss_one (ps_ret (pe_join pe_str (pe_lc (own := [("entry", 1)]) (g := gName 1) (tt := tYes) rfl scSStr.nd (pi_tup (pe_fld (pv 0) rfl)) (blkOk_by (N := ["self", "entry"]) (sc := defScope sSStr) (by decide +kernel)) (fun _ _ _ _ _ => pg_name (i := 1) scSStr.nd rfl (Or.inl rfl)) (fun _ _ _ _ _ => pts_nil)
        (fun _ _ _ _ _ => pe_ifExp (pt_cmpR op_isN (pv 1) pe_non (nomark _)) (pe_glob (v := .str "_") (by rfl) T.gap ⟨_, rfl⟩) (pe_callTy (call_strOwn (E := E0) T.hStr.h T.hStr.i GT T.bStr (hr.mono (by decide)) pass0) (by rfl) T.rc.str_ (by decide +kernel) (pa_cons (pv 1) pa_nil))))))), ?_⟩
    refine ⟨⟨_, rfl⟩, _, rfl, a, T.S, dx, _, _, rfl, ha, T.clS, T.nE, ent_look t, t, rfl, ⟨_, SqT.of ht⟩, fun D hD => lcS_tup (P := fun i y _ => ∃ r, rs[i]? = some r ∧ y = .str (estr r)) ?_ ?_ (SqT.of ht) (by rw [hv.1]; omega) hD ?_ ?_⟩
    · rintro k y H1 H2 S h; exact h
    · rintro k y H1 D1 xs zs hd h; exact h
    · intro i x H1 Q1 hx S1 z
      obtain ⟨r, hr', ex⟩ := hv.get hx
      refine ⟨_, rfl, rfl, _, rfl, ?_⟩
      cases r with
      | none =>
        have e : x = .non := ex
        subst e
        exact iteT (z _ _ (Same.refl _) ⟨none, hr', rfl⟩)
      | some q1 =>
        obtain ⟨b, rfl, ⟨dy, hb⟩, s1⟩ := ex
        refine iteF ⟨_, rfl, b, dy, _, rfl, S1 _ _ hb, b, PN, q1, rfl, ⟨⟨dy, S1 _ _ hb⟩, s1⟩, (by decide), _, rfl, z _ _ (Same.refl _) ⟨some q1, hr', rfl⟩⟩
    · intro H1 ys S1 hys hyl hP
      have ey : ys = (rs.map estr).map V.str := by
        refine List.ext_getElem? fun i => ?_
        rw [List.map_map, List.getElem?_map]
        by_cases hi : i < ys.length
        · obtain ⟨r, e1, e2⟩ := hP i ys[i] (List.getElem?_eq_getElem hi)
          rw [e1, List.getElem?_eq_getElem hi, e2]
          rfl
        · rw [List.getElem?_eq_none (by omega), List.getElem?_eq_none (by rw [← hv.1]; omega)]
          rfl
      rw [ey] at hys
      refine ⟨(" " : Str), D, rs.map estr, rfl, rfl, .inl (SqL.of hys), ?_, q H1 S1⟩
      have h1 := line_sum sz
      have e : (" " : Str).length = 1 := rfl
      rw [List.length_map, e]
      omega
def spSRepr (C S : Addr) : Sp := fun vs H Q _ => ∃ a rs, vs = [.ref a] ∧ SerAt C S PN H a rs ∧ ∀ H', Same H H' → Q (.str (srepr rs)) H'
theorem ok_SRepr (T : Tx K mg C) : FnOk P w K mg base CX0 7 T.aSRepr T.dSRepr ["self"] (spSRepr C T.S) := by
  have GT : FnOk P w K mg base CX0 4 T.aSStr T.dSStr ["self"] (spSStr C T.S) := ok_SStr T
  refine T.FSRepr.ok scSRepr (fun vs H Q E h => ?_) (fun cdv A outer s H vs Q E hr h => ?_)
  · obtain ⟨a, rs, rfl, _⟩ := h
    rfl
  · obtain ⟨a, rs, rfl, hs, q⟩ := h
    obtain ⟨dx, t, ha, ⟨vs, ht, hv⟩, hl⟩ := hs.tup
    have sz : SzE 800 rs := SzE.mono (EN.sz hv) (by decide)
    have lz := line_len sz
    have lb := line_big
    refine ⟨_, (pss_one (ps_ret (pe_joined (.cons pe_str (.cons (pe_fmtR (pe_callTy (call_strOwn (E := E0) T.hSStr.h T.hSStr.i GT T.bSStr hr pass0) (by rfl) T.rc.str_ (by decide +kernel) (pa_cons (pv 0) pa_nil))) (.cons pe_str .nil)))))), ?_⟩
    have s0 : Str.empty.length = 0 := rfl
    have s1 : ("Series(" : Str).length = 7 := rfl
    have s2 : (")" : Str).length = 1 := rfl
    have s3 : ("'" : Str).length = 1 := rfl
    refine ⟨_, rfl, ?_, _, rfl, a, dx, _, rfl, ha, a, rs, rfl, hs, fun H1 S1 => ⟨_, rfl, .inl ⟨line rs, rfl, ?_, ?_⟩⟩⟩
    · simp only [Str.length_append]; omega
    · rw [line_repr]
      simp only [Str.length_append]; omega
    · rw [line_repr]
      refine ⟨_, rfl, ?_, _, rfl, ?_, q H1 S1⟩
      · simp only [Str.length_append]; omega
      · simp only [Str.length_append]; omega
/-! ### reading -/
def spREnt (C : Addr) : Sp := fun vs H Q _ => ∃ r l, vs = [.str (estr r), .str l] ∧ (∀ q, r = some q → Sz PN q) ∧ ∀ v H', Same H H' → EN C PN H' v r → Q v H'
theorem ok_REnt (T : Tx K mg C) : FnOk P w K mg base CX0 5 T.aREnt T.dREnt ["word", "text"] (spREnt C) := by
  have GR : FnOk P w K mg base CX0 4 T.aRd T.dRd ["cls", "text"] (spRd C) := ok_Rd T
  refine T.FREnt.ok scREnt (fun vs H Q E h => ?_) (fun cdv A outer s H vs Q E hr h => ?_)
  · obtain ⟨r, l, rfl, _⟩ := h
    rfl
  · obtain ⟨r, l, rfl, hsz, q⟩ := h
    refine ⟨_, PSs.nox (pss_cons (ps_if (pt_cmpR op_eq (pv 0) (pe_glob (v := .str "_") (by rfl) T.gap ⟨_, rfl⟩) (nomark _)) (pss_one (ps_ret pe_non)) pss_nil)
      (pss_one (ps_try_only rfl rfl ⟨rfl, by decide, .inl T.gET⟩ LamX.takes0 (fun W pn xe tk _ => pss_one (ps_ret (ClX.pe_cmeth (E := E0) (pe_glob (v := .ref C) (by rfl) T.rc.mgC rfl) T.rRd T.cRd (GR.raw T.bRd .nil) hr pass0 (pa_cons (pv 0) pa_nil)))) (fun a oe cls d pn _ _ => pss_one ps_never)))), ?_⟩
    refine ⟨_, rfl, rfl, _, rfl, ?_⟩
    rw [str_dec]
    cases r with
    | none =>
      rw [decide_eq_true (show estr none = ("_" : Str) from rfl)]
      exact iteT (q .non H (Same.refl _) rfl)
    | some x =>
      rw [decide_eq_false (show ¬ estr (some x) = ("_" : Str) from rstr_us x)]
      have sz := hsz x rfl
      have s8 : Sz 800 x := sz.mono (by decide)
      have h1 : (tx x.num).length ≤ 250 := tx_short s8.1
      have h2 : (tx (x.den : Int)).length ≤ 250 := tx_short (show (x.den : Int).natAbs < 2 ^ 800 from s8.2)
      have h3 := rstr_len h1 h2
      refine iteF ⟨rfl, _, rfl, rstr x, rfl, by omega, isTx_rstr x (by omega) (by omega), fun p H' S rq => ?_⟩
      rw [rdq_rstr x (by omega) (by omega)] at rq
      exact q _ H' S ⟨p, rfl, rq.1, sz⟩
theorem ins_rf {C S : Addr} {dx : Addr} : ∀ (dy : Addr) (t b : Int), HO.ins S dx [] ≠ HO.ins C dy (rf t b) := by
  intro dy t b h
  injection h with _ _ h
  have e := congrArg (fun f => List.lookup ("_top" : Str) f) h
  simp only [rf_top] at e
  cases e
theorem mk_ser {H : Hp} {S t x dx : Addr} {rs : List Ent} {W : VK} (hx : H x = none) (hd : H dx = none) (hn : dx ≠ x) (hg : TupG C PN H t rs) (hl : rs.length ≤ 400) (q : ∀ H2, Same H H2 → SerAt C S PN H2 x rs → W .non H2) :
    spSI C S [.ref x, .ref t] (upd (upd H dx (.own x)) x (.ins S dx [])) W E0 := by
  have S0 : Same H (upd (upd H dx (.own x)) x (.ins S dx [])) := same_new (same_new (Same.refl _) hd) (by rw [upd_ne (Ne.symm hn)]; exact hx)
  refine ⟨x, t, dx, rs, rfl, upd_same, hg.same S0, hl, fun H1 t' S1 ⟨vs, ht, hv⟩ => ?_⟩
  have e1 : H1 x = some (.ins S dx []) := S1 _ _ upd_same
  refine q _ (fun b o e => ?_) ⟨dx, t', vs, upd_same, ?_, hv.imp fun v r z => z.off e1 ins_rf, hl⟩
  · rw [upd_ne (ne_of_none e hx)]
    exact S1 _ _ (S0 _ _ e)
  · rw [upd_ne (fun z => by subst z; rw [e1] at ht; cases ht)]
    exact ht
def spSR (C S : Addr) : Sp := fun vs H Q _ => ∃ rs, vs = [.ref S, .str (line rs)] ∧ SzE PN rs ∧ rs.length ≤ 400 ∧ ∀ p H', Same H H' → SerAt C S PN H' p rs → Q (.ref p) H'
theorem ok_SR (T : Tx K mg C) : FnOk P w K mg base CX0 7 T.aSR T.dSR ["cls", "text"] (spSR C T.S) := by
  have GI : FnOk P w K mg base CX0 5 T.aSI T.dSI ["self", "entries"] (spSI C T.S) := ok_SI T
  have GE : FnOk P w K mg base CX0 5 T.aREnt T.dREnt ["word", "text"] (spREnt C) := ok_REnt T
  refine T.FSR.ok scSR (fun vs H Q E h => ?_) (fun cdv A outer s H vs Q E hr h => ?_)
  · obtain ⟨rs, rfl, _⟩ := h
    rfl
  · obtain ⟨rs, rfl, hsz, hl, q⟩ := h
    have hr5 := hr.mono (show 5 ≤ 6 by decide)
    have ll := line400
    have lb := line_big
    have lz := line_len (SzE.mono hsz (show PN ≤ 800 by decide))
    refine ⟨_, PSs.nox (pss_cons (ps_if (pt_not (pt_val (pe_callB call_isi (by rfl) T.rc.isi (by decide +kernel) (pa_cons (pv 1) (pa_cons (pe_bltn (v := .ty "str") (u := .type "str") (by rfl) T.rc.str_ (by decide +kernel) rfl) pa_nil))))) (pss_one ps_never) pss_nil)
      (pss_cons (ps_if (pt_cmpR op_eq (pv 1) pe_str (nomark _)) (pss_one (ps_ret (pe_makeL (i := 0) T.MS GI hr rfl (.inl rfl) T.bSI .nil pass0 (pa_cons (pe_tup pa_nil) pa_nil)))) pss_nil)
      (pss_one (ps_ret (pe_makeL (i := 0) T.MS GI hr rfl (.inl rfl) T.bSI .nil pass0 (pa_cons (pe_callTy call_tuple_of (by rfl) T.tup (by decide +kernel) (pa_cons (pe_lc (own := [("word", 2)]) (g := gName 2) (tt := tYes) rfl scSR.nd (pi_list (pe_split (pv 1) pe_str)) (blkOk_by (N := ["cls", "text", "word"]) (sc := defScope sSR) (by decide +kernel)) (fun _ _ _ _ _ => pg_name (i := 2) scSR.nd rfl (Or.inl rfl)) (fun _ _ _ _ _ => pts_nil)
        (fun _ _ _ _ _ => pe_call GE hr5 (by rfl) T.gREnt T.FREnt.kp T.bREnt .nil pass0 (pa_cons (pv 2) (pa_cons (pv 1) pa_nil)))) pa_nil)) pa_nil)))))), ?_⟩
    refine ⟨_, rfl, _, _, _, _, true, rfl, .ty _, (Dec.str _).typ, kit_ty (by decide +kernel), true, rfl, iteF ?_⟩
    refine ⟨_, rfl, rfl, _, rfl, ?_⟩
    rw [str_dec]
    refine ite2 (fun hc => ?_) (fun hc => ?_)
    · have e : rs = [] := by
        cases rs with
        | nil => rfl
        | cons r t => exact absurd (of_decide_eq_true hc) (line_ne (by simp))
      subst e
      refine ⟨rfl, (by show 0 ≤ sizeLine; omega), fun t ht => ?_⟩
      generalize hE : upd H t _ = H1
      have gt := upd_got hE
      have st := upd_stay hE ht
      exact fun x dx hx hd hn => mk_ser hx hd hn ⟨[], gt, All2.nil⟩ hl fun H2 S2 sr => ⟨rfl, q _ _ (st.trans S2) sr⟩
    · have hne : rs ≠ [] := fun z => hc (by rw [z]; rfl)
      refine ⟨rfl, _, rfl, ⟨_, rfl⟩, line rs, " ", rfl, rfl, rfl, by omega, fun p hp => ?_⟩
      rw [line_split hne]
      generalize hE : upd H p _ = H1
      have gp := upd_got hE
      have sp := upd_stay hE hp
      refine ⟨p, rfl, ⟨_, SqL.of gp⟩, fun D hD => lcS_list (P := fun i y H => ∃ r, rs[i]? = some r ∧ EN C PN H y r) ?_ ?_ (SqL.of gp) (by simp; omega) hD ?_ ?_⟩
      · rintro k y H1 H2 S ⟨r, h1, h2⟩; exact ⟨r, h1, h2.same S⟩
      · rintro k y H1 D1 xs zs hd ⟨r, h1, h2⟩; exact ⟨r, h1, h2.offL hd⟩
      · intro i x H2 Q1 hx S1 z
        rw [List.map_map, List.getElem?_map] at hx
        cases hr' : rs[i]? with
        | none => rw [hr'] at hx; cases hx
        | some r =>
          rw [hr'] at hx
          have ex : x = .str (estr r) := (Option.some.inj hx).symm
          subst ex
          exact ⟨_, rfl, _, rfl, r, line rs, rfl, fun q e => hsz q (by subst e; exact List.mem_of_getElem? hr'), fun v H' S' en => z _ _ S' ⟨r, hr', en⟩⟩
      · intro H2 ys S1 hys hyl hP
        refine ⟨D, _, rfl, .inl ⟨SqL.of hys, fun t' nt' => ?_⟩⟩
        generalize hE' : upd H2 t' _ = H3
        have gt := upd_got hE'
        have st := upd_stay hE' nt'
        have tg : TupG C PN H3 t' rs := ⟨ys, gt, by rw [hyl]; simp, fun i v r hv1 hr1 => by
          obtain ⟨r', e1, e2⟩ := hP i v hv1
          rw [hr1] at e1
          cases e1
          exact (e2.same st).gn⟩
        exact fun x dx hx hd hn => mk_ser hx hd hn tg hl fun H4 S4 sr => ⟨rfl, q _ _ (((sp.trans S1).trans st).trans S4) sr⟩
end
end T07

/-! The law's helpers: texts, entries, rows. -/
namespace T07
open PySem PySem.Spec PyProof.Rows L2 SF SQ SK
section
variable {P : Program} {w : World} {K : PySem.W.Frag} {mg : Str → Option Value} {base : Heap} {C : Addr}
def spNumT : Sp := fun vs H Q _ => ∃ a q, vs = [.ref a] ∧ PQ H a PN q ∧ Q (.str (rstr q)) H
theorem tlogN {i : Int} (h : i.natAbs < 2 ^ PN) : i.natAbs.log2 < 1920 := tlog h (by decide)
theorem tx_lenN {i : Int} (h : i.natAbs < 2 ^ PN) : (tx i).length ≤ 250 := tx_short (Nat.lt_of_lt_of_le h (two_le (by decide)))
theorem emp_add (x : Str) : Str.empty ++ x = x := by
  have e : TL.tl (Str.empty ++ x) = TL.tl x := by rw [TL.tl_append]; rfl
  exact (List.cons.inj (TL.map_tl_inj (l := [_]) (m := [_]) (by rw [List.map_cons, List.map_cons, e]))).1
theorem ok_Num (T : Tx K mg C) : FnOk P w K mg base CX0 1 T.aNum T.dNum ["_law_pair_here"] spNumT := by
  refine T.FNum.ok scNum (fun vs H Q E h => ?_) (fun cdv A outer s H vs Q E hr h => ?_)
  · obtain ⟨a, q, rfl, _⟩ := h
    rfl
  · obtain ⟨a, x, rfl, ⟨ra, sz⟩, z⟩ := h
    have l5 := line5
    have x1 := tx_lenN sz.1
    have x2 := tx_lenN (show (x.den : Int).natAbs < 2 ^ PN from sz.2)
    have s1 : ("/" : Str).length = 1 := rfl
    have b1 := tlogN sz.1
    have b2 := tlogN (show (x.den : Int).natAbs < 2 ^ PN from sz.2)
    refine ⟨_, (pss_one (ps_ret (pe_ifExp (pt_cmpR op_eq (pe_ix ix_tup (pv 0) pe_int (fun _ _ => rfl)) pe_int (nomark _)) (pe_callTy call_str_int (by rfl) T.rc.str_ (by decide +kernel) (pa_cons (pe_ix ix_tup (pv 0) pe_int (fun _ _ => rfl)) pa_nil))
      (pe_op op_add_str (pe_op op_add_str (pe_callTy call_str_int (by rfl) T.rc.str_ (by decide +kernel) (pa_cons (pe_ix ix_tup (pv 0) pe_int (fun _ _ => rfl)) pa_nil)) pe_str) (pe_callTy call_str_int (by rfl) T.rc.str_ (by decide +kernel) (pa_cons (pe_ix ix_tup (pv 0) pe_int (fun _ _ => rfl)) pa_nil)))))), ?_⟩
    refine ⟨_, rfl, a, _, 1, _, rfl, rfl, SqT.of ra, at_of (j := 1) rfl rfl, rfl, _, rfl, ?_⟩
    unfold rstr at z
    refine ite2 (fun hc => ?_) (fun hc => ?_)
    · have hc : x.den = 1 := by
        have := V.int.inj (of_decide_eq_true hc)
        omega
      rw [if_pos hc] at z
      exact ⟨_, rfl, a, _, 0, _, rfl, rfl, SqT.of ra, at_of (j := 0) rfl rfl, _, rfl, b1, z⟩
    · have hc : ¬ x.den = 1 := fun e => hc (decide_eq_true (by rw [e]; rfl))
      rw [if_neg hc, emp_add] at z
      exact ⟨_, rfl, a, _, 0, _, rfl, rfl, SqT.of ra, at_of (j := 0) rfl rfl, _, rfl, b1, _, _, rfl, rfl, (by show (tx x.num).length + _ ≤ _; omega), _, rfl, a, _, 1, _, rfl, rfl, SqT.of ra, at_of (j := 1) rfl rfl, _, rfl, b2, _, _, rfl, rfl, (by rw [Str.length_append]; show (tx x.num).length + _ + (tx (x.den : Int)).length ≤ _; omega), z⟩
/-! ### entries and rows that are drawn -/
theorem RN.but {H H' : Hp} {a : Addr} {v : V} {r : Ent} (h : RN PN H v r) (s : SrcAt H a) (k : But a H H') : RN PN H' v r := by
  cases r with
  | none => exact h
  | some q => obtain ⟨p, e, x, sz⟩ := h; exact ⟨p, e, tup_but x s k, sz⟩
def spEnt : Sp := fun vs H Q _ => ∃ a : Addr, vs = [.ref a] ∧ SrcAt H a ∧ ∀ r v H', RN PN H' v r → SrcAt H' a → But a H H' → Q v H'
theorem ok_Ent (T : Tx K mg C) : FnOk P w K mg base CX0 4 T.aEnt T.dEnt ["_law_source_here"] spEnt := by
  have GD : FnOk P w K mg base CX0 3 T.aDraw T.dDraw ["_law_source_here", "_law_many"] spDraw := (ok_draw T.FDraw T.blt).mono (by decide)
  have GP : FnOk P w K mg base CX0 3 T.aPair T.dPair ["_law_source_here"] spPair := ok_pair T
  refine T.FEnt.ok scEnt (fun vs H Q E h => ?_) (fun cdv A outer s H vs Q E hr h => ?_)
  · obtain ⟨a, rfl, _⟩ := h
    rfl
  · obtain ⟨a, rfl, hs, q⟩ := h
    refine ⟨_, (pss_one (ps_ret (pe_ifExp (pt_cmpR op_eq (pe_call GD hr (by rfl) T.gDraw T.FDraw.kp T.bDraw .nil pass0 (pa_cons (pv 0) (pa_cons pe_int pa_nil))) pe_int (nomark _)) pe_non (pe_call GP hr (by rfl) T.gPair T.FPair.kp T.bPair .nil pass0 (pa_cons (pv 0) pa_nil))))), ?_⟩
    refine ⟨_, rfl, a, 3, rfl, (by decide), (by decide), hs, fun d H1 d0 d1 s1 k1 => ⟨rfl, _, rfl, ?_⟩⟩
    refine ite2 (fun _ => ?_) (fun _ => ?_)
    · exact q none .non H1 rfl s1 k1
    · exact ⟨_, rfl, a, rfl, s1, fun x p H2 sz e s2 k2 => q (some x) _ H2 ⟨p, rfl, e, sz⟩ s2 (k1.trans k2)⟩
def spRow : Sp := fun vs H Q _ => ∃ a : Addr, vs = [.ref a] ∧ SrcAt H a ∧ ∀ rs p H', rs.length ≤ 200 → RowAt PN H' p rs → p ≠ a → SrcAt H' a → But a H H' → Q (.ref p) H'
theorem all2_mk {P : V → Ent → Prop} {vs : List V} (h : ∀ (i : Nat) v, vs[i]? = some v → ∃ r, P v r) : ∃ rs, All2 P vs rs := by
  induction vs with
  | nil => exact ⟨[], All2.nil⟩
  | cons v t ih =>
    obtain ⟨rs, hr⟩ := ih fun i u e => h (i + 1) u (by simpa using e)
    obtain ⟨r, hv⟩ := h 0 v rfl
    refine ⟨r :: rs, by rw [List.length_cons, List.length_cons, hr.1], fun i x y hx hy => ?_⟩
    cases i with
    | zero =>
      simp at hx hy
      subst hx hy
      exact hv
    | succ i => exact hr.2 i x y (by simpa using hx) (by simpa using hy)
theorem mem_all2 {P : V → Ent → Prop} {vs : List V} (h : ∀ v ∈ vs, ∃ r, P v r) : ∃ rs, All2 P vs rs := all2_mk fun i v e => h v (List.mem_of_getElem? e)
theorem ixL {X : Cx} {K : PySem.W.Frag} (h : X.K = K) : IxR X (rIxL K) := by
  subst h
  exact ix_list
theorem ok_Row (T : Tx K mg C) : FnOk P w K mg base CX0 5 T.aRow T.dRow ["_law_source_here"] spRow := by
  have GD : FnOk P w K mg base CX0 4 T.aDraw T.dDraw ["_law_source_here", "_law_many"] spDraw := (ok_draw T.FDraw T.blt).mono (by decide)
  have GL : FnOk P w K mg base CX0 4 T.aLow T.dLow ["_law_upper", "_law_lower"] spLowest := (ok_lowest T.FLow T.FCom T.bCom T.gCom T.blt).mono (by decide)
  have GE : FnOk P w K mg base CX0 4 T.aEnt T.dEnt ["_law_source_here"] spEnt := ok_Ent T
  refine T.FRow.ok scRow (fun vs H Q E h => ?_) (fun cdv A outer s H vs Q E hr h => ?_)
  · obtain ⟨a, rfl, _⟩ := h
    rfl
  · obtain ⟨a, rfl, hs, q⟩ := h
    refine ⟨_, (pss_cons (ps_set (i := 1) scRow.nd rfl (.inl rfl) (pe_call GD hr (by rfl) T.gDraw T.FDraw.kp T.bDraw .nil pass0 (pa_cons (pv 0) (pa_cons pe_int pa_nil))))
      (pss_cons (ps_if (pt_cmpR op_eq (pv 1) pe_int (nomark _)) (pss_cons (ps_set (i := 2) scRow.nd rfl (.inr rfl) (pe_lst (pa_cons pe_non (pa_cons (pe_call GL hr (by rfl) T.gLow T.FLow.kp T.bLow .nil pass0 (pa_cons (pe_op op_sub (pe_call GD hr (by rfl) T.gDraw T.FDraw.kp T.bDraw .nil pass0 (pa_cons (pv 0) (pa_cons pe_int pa_nil))) pe_int) (pa_cons (pe_op op_add pe_int (pe_call GD hr (by rfl) T.gDraw T.FDraw.kp T.bDraw .nil pass0 (pa_cons (pv 0) (pa_cons pe_int pa_nil)))) pa_nil)))
            (pa_cons (pe_tup (pa_cons (pe_call GD hr (by rfl) T.gDraw T.FDraw.kp T.bDraw .nil pass0 (pa_cons (pv 0) (pa_cons pe_int pa_nil))) (pa_cons pe_int pa_nil))) pa_nil)))))
          (pss_one (ps_ret (pe_lc (own := [("_law_k", 3)]) (g := gName 3) (tt := tYes) rfl scRow.nd (pi_range1 rfl T.rc.range_ (pa_cons (pe_op op_add pe_int (pe_call GD hr (by rfl) T.gDraw T.FDraw.kp T.bDraw .nil pass0 (pa_cons (pv 0) (pa_cons pe_int pa_nil)))) pa_nil)) (blkOk_by (N := ["_law_source_here", "_law_way", "_law_held", "_law_k"]) (sc := defScope sRow) (by decide +kernel)) (fun _ _ _ _ _ => pg_name (i := 3) scRow.nd rfl (Or.inl rfl)) (fun _ _ _ _ _ => pts_nil)
            (fun _ _ _ _ _ => pe_ix (ixL (K := K) rfl) (pv 2) (pe_op op_modN (pe_callTy call_int1 (by rfl) T.rc.int_ (by decide +kernel) (pa_cons (pe_op op_add (pe_op op_mul (pv 3) (pv 3)) (pe_op op_fdivZ (pv 3) pe_int)) pa_nil)) pe_int) (fun _ _ => rfl)))))) pss_nil)
      (pss_one (ps_ret (pe_lc (own := [("_law_k", 3)]) (g := gName 3) (tt := tYes) rfl scRow.nd (pi_range1 rfl T.rc.range_ (pa_cons (pe_call GD hr (by rfl) T.gDraw T.FDraw.kp T.bDraw .nil pass0 (pa_cons (pv 0) (pa_cons pe_int pa_nil))) pa_nil)) (blkOk_by (N := ["_law_source_here", "_law_way", "_law_held", "_law_k"]) (sc := defScope sRow) (by decide +kernel)) (fun _ _ _ _ _ => pg_name (i := 3) scRow.nd rfl (Or.inl rfl)) (fun _ _ _ _ _ => pts_nil)
            (fun _ _ _ _ _ => pe_call GE hr (by rfl) T.gEnt T.FEnt.kp T.bEnt .nil pass0 (pa_cons (pv 0) pa_nil))))))), ?_⟩
    refine ⟨_, rfl, a, 8, rfl, (by decide), (by decide), hs, fun d H1 d0 d1 s1 k1 => ⟨_, rfl, rfl, _, rfl, ?_⟩⟩
    have ll := line400
    refine ite2 (fun _ => ?_) (fun _ => ?_)
    · refine ⟨_, rfl, a, 61, rfl, (by decide), (by decide), s1, fun e H2 e0 e1 s2 k2 => ⟨_, _, rfl, rfl, ?_⟩⟩
      refine ⟨_, rfl, a, 12, rfl, (by decide), (by decide), s2, fun g H3 g0 g1 s3 k3 => ⟨_, _, rfl, rfl, ?_⟩⟩
      refine ⟨_, _, rfl, (by omega), Nat.lt_of_lt_of_le (big_pn (n := 1 + g) (by unfold Big; omega) (by unfold Big; omega)) (two_le (by decide)), fun p hp => ?_⟩
      have g0' : (1 + g : Int) ≠ 0 := by omega
      rw [nt_rat g0', nb_rat g0']
      have sq : Sz PN (Rat.divInt (e - 30) (1 + g)) := Sz.of g0' (big_pn (by unfold Big; omega) (by unfold Big; omega)) (big_pn (by unfold Big; omega) (by unfold Big; omega))
      generalize Rat.divInt (e - 30) (1 + g) = x at sq
      generalize hE : upd H3 p _ = H4
      have ep := upd_got hE
      have S4 := upd_stay hE hp
      have s4 := s3.same S4
      have k4 := ((k1.trans k2).trans k3).same S4
      refine ⟨_, rfl, a, 2001, rfl, (by decide), (by decide), s4, fun f H5 f0 f1 s5 k5 => ⟨(by show 2 ≤ sizeLine; omega), fun p2 hp2 => ?_⟩⟩
      generalize hE : upd H5 p2 _ = H6
      have ep2 := upd_got hE
      have S6 := upd_stay hE hp2
      have ep' := tup_but ep s4 k5
      have s6 := s5.same S6
      have k6 := (k4.trans k5).same S6
      have sf : Sz PN (f : Rat) := Sz.int (big_pn (by unfold Big; omega) (by unfold Big; omega)) (by decide)
      have r1 : RN PN H6 (.ref p) (some x) := ⟨p, rfl, S6 _ _ ep', sq⟩
      have r2 : RN PN H6 (.ref p2) (some (f : Rat)) := ⟨p2, rfl, ep2, sf⟩
      refine ⟨(by show 3 ≤ sizeLine; omega), fun L hL => ?_⟩
      generalize hE : upd H6 L _ = H7
      have eL := upd_got hE
      have S7 := upd_stay hE hL
      have s7 := s6.same S7
      have k7 := k6.same S7
      have naL : L ≠ a := Ne.symm (s6.ne hL)
      refine ⟨_, rfl, a, 200, rfl, (by decide), (by decide), s7, fun n H8 n0 n1 s8 k8 => ⟨_, _, rfl, rfl, 1 + n, rfl, (by omega), (by omega), fun D hD => ?_⟩⟩
      have eL8 := lst_but eL naL k8
      have rr : ∀ v ∈ [V.non, .ref p, .ref p2], ∃ r, RN PN H8 v r := by
        intro v hv
        simp only [List.mem_cons, List.not_mem_nil, or_false] at hv
        rcases hv with rfl | rfl | rfl
        · exact ⟨none, rfl⟩
        · exact ⟨_, RN.but (r1.same S7) s7 k8⟩
        · exact ⟨_, RN.but (r2.same S7) s7 k8⟩
      refine lc_range (lo := 0) (n := (1 + n).toNat) (fun i J => Same H8 J ∧ ∃ ys, J D = some (.lst ys) ∧ ys.length = i ∧ ∀ v ∈ ys, v ∈ [V.non, .ref p, .ref p2]) ⟨same_new (Same.refl _) hD, [], upd_same, rfl, fun v hv => by simp at hv⟩ ?_ ?_
      · rintro i J hi ⟨S8, ys, ey, yl, yv⟩
        obtain ⟨j, hj, lt⟩ : ∃ j : Nat, (((0 + (i : Int)) * (0 + (i : Int)) + (0 + (i : Int)).fdiv 7).fmod 3) = (j : Int) ∧ j < 3 := by
          rw [Int.fmod_eq_emod_of_nonneg _ (by decide)]
          exact ⟨(((0 + (i : Int)) * (0 + (i : Int)) + (0 + (i : Int)).fdiv 7) % 3).toNat, by omega, by omega⟩
        obtain ⟨v, hv⟩ : ∃ v, [V.non, .ref p, .ref p2][j]? = some v := ⟨_, List.getElem?_eq_getElem lt⟩
        refine ⟨rfl, _, rfl, _, rfl, _, rfl, _, _, rfl, rfl, .inl ⟨by omega, by omega⟩, _, rfl, _, _, rfl, rfl, ⟨by decide, by decide⟩, _, _, rfl, rfl, .inl ⟨_, rfl, _, _, rfl, rfl, (by show (3 : Int) ≠ 0; decide), ?_⟩⟩
        dsimp only
        rw [hj]
        refine ⟨L, _, (j : Int), v, rfl, rfl, SqL.of (S8 _ _ eL8), atI_nat hv, ys, ey, by omega, fun b o hb => ?_, ys ++ [v], upd_same, by rw [List.length_append, yl]; rfl, fun u hu => ?_⟩
        · rw [upd_ne (ne_of_none hb hD)]
          exact S8 _ _ hb
        · rcases List.mem_append.mp hu with h | h
          · exact yv u h
          · rw [List.mem_singleton.mp h]
            exact List.mem_of_getElem? hv
      · rintro J ⟨S8, ys, ey, yl, yv⟩
        obtain ⟨rs, hrs⟩ := mem_all2 (P := RN PN J) (vs := ys) fun v hv => let ⟨r, h⟩ := rr v (yv v hv); ⟨r, h.same S8⟩
        have nDa : D ≠ a := Ne.symm (s8.ne hD)
        exact q rs D J (by rw [← hrs.1]; omega) ⟨ys, ey, hrs⟩ nDa (s8.same S8) ((k7.trans k8).same S8)
    · refine ⟨_, rfl, a, 13, rfl, (by decide), (by decide), s1, fun n H2 n0 n1 s2 k2 => ⟨n, rfl, (by omega), (by omega), fun D hD => ?_⟩⟩
      have nDa : D ≠ a := Ne.symm (s2.ne hD)
      refine lc_range (lo := 0) (n := n.toNat) (fun i J => SrcAt J a ∧ But a H2 J ∧ ∃ ys, J D = some (.lst ys) ∧ ys.length = i ∧ ∀ v ∈ ys, ∃ r, RN PN J v r) ⟨s2.same (same_new (Same.refl _) hD), (But.refl a H2).new hD, [], upd_same, rfl, fun v hv => by simp at hv⟩ ?_ ?_
      · rintro i J hi ⟨sJ, kJ, ys, ey, yl, yv⟩
        refine ⟨rfl, _, rfl, a, rfl, sJ, fun r v J2 rv sJ2 kJ2 => ⟨ys, lst_but ey nDa kJ2, by omega, ?_, fun b o hb e => ?_, ys ++ [v], upd_same, by rw [List.length_append, yl]; rfl, fun u hu => ?_⟩⟩
        · obtain ⟨x, y, z, e⟩ := sJ2
          exact ⟨x, y, z, by rw [upd_ne (Ne.symm nDa)]; exact e⟩
        · rw [upd_ne (ne_of_none e hD)]
          exact kJ2 _ _ hb (kJ _ _ hb e)
        · have ey2 := lst_but ey nDa kJ2
          rcases List.mem_append.mp hu with h | h
          · obtain ⟨r', h'⟩ := yv u h
            exact ⟨r', (RN.but h' sJ kJ2).offL ey2⟩
          · rw [List.mem_singleton.mp h]
            exact ⟨r, rv.offL ey2⟩
      · rintro J ⟨sJ, kJ, ys, ey, yl, yv⟩
        obtain ⟨rs, hrs⟩ := mem_all2 yv
        exact q rs D J (by rw [← hrs.1]; omega) ⟨ys, ey, hrs⟩ nDa sJ (k1.trans (k2.trans kJ))
end
end T07

/-! The law's helpers: what is given, what is written. -/
namespace T07
open PySem PySem.Spec PyProof.Rows L2 SF SQ SK
section
variable {P : Program} {w : World} {K : PySem.W.Frag} {mg : Str → Option Value} {base : Heap} {C : Addr}
def spGiv (C : Addr) : Sp := fun vs H Q _ => ∃ a p rs, vs = [.ref a, .ref p] ∧ SrcAt H a ∧ RowAt PN H p rs ∧ p ≠ a ∧ rs.length ≤ 300 ∧ ∀ t H', TupG C PN H' t rs → SrcAt H' a → But a H H' → Q (.ref t) H'
theorem GN.but {H H' : Hp} {a : Addr} {v : V} {r : Ent} (h : GN C PN H v r) (s : SrcAt H a) (k : But a H H') : GN C PN H' v r := by
  cases r with
  | none => exact h
  | some q =>
    obtain ⟨b, x⟩ := h
    refine ⟨b, ?_⟩
    cases b with
    | true => obtain ⟨p, e, x⟩ := x; exact ⟨p, e, RQ.but x s k⟩
    | false => exact x
theorem SrcAt.off {H : Hp} {a L : Addr} {o : HO} (s : SrcAt H a) (n : L ≠ a) : SrcAt (upd H L o) a := by
  obtain ⟨x, y, z, e⟩ := s
  exact ⟨x, y, z, by rw [upd_ne (Ne.symm n)]; exact e⟩
/-- the state of _law_given's loop -/
def GLoop (C a p L : Addr) (H : Hp) (rs : List Ent) (i : Nat) (σ : L2.St) (J : Hp) : Prop :=
  (∃ o, σ = [some (.ref a), some (.ref p), some (.ref L), o]) ∧ SrcAt J a ∧ But a H J ∧ ∃ ys, J L = some (.lst ys) ∧ All2 (GN C PN J) ys (rs.take i)
theorem gloop_next {a p L : Addr} {H J J2 : Hp} {rs : List Ent} {i : Nat} {r : Ent} {v : V} {ys : List V} {o : Option V} (hL : H L = none) (nL : L ≠ a) (hr : rs[i]? = some r) (sJ : SrcAt J a) (kJ : But a H J) (ey : J L = some (.lst ys)) (hy : All2 (GN C PN J) ys (rs.take i)) (s2 : SrcAt J2 a) (k2 : But a J J2) (g : GN C PN J2 v r) :
    GLoop C a p L H rs (i + 1) [some (.ref a), some (.ref p), some (.ref L), o] (upd J2 L (.lst (ys ++ [v]))) := by
  have ey2 : J2 L = some (.lst ys) := lst_but ey nL k2
  refine ⟨⟨_, rfl⟩, SrcAt.off s2 nL, fun b u nb e => ?_, ys ++ [v], upd_same, ?_⟩
  · rw [upd_ne (ne_of_none e hL)]
    exact k2 _ _ nb (kJ _ _ nb e)
  · rw [List.take_add_one, hr]
    exact All2.snoc (hy.imp fun x y z => (GN.but z sJ k2).offL ey2) (g.offL ey2)
theorem divInt_same (q : Rat) : Rat.divInt q.num (q.den : Int) = q := Rat.num_divInt_den q
theorem ok_Giv (T : Tx K mg C) : FnOk P w K mg base CX0 4 T.aGiv T.dGiv ["_law_source_here", "_law_row_here"] (spGiv C) := by
  have GD : FnOk P w K mg base CX0 3 T.aDraw T.dDraw ["_law_source_here", "_law_many"] spDraw := (ok_draw T.FDraw T.blt).mono (by decide)
  have GI : FnOk P w K mg base CX0 2 T.aIni T.dIni ["self", "top", "bottom"] (spInit C) := ok_init T
  refine T.FGiv.ok scGiv (fun vs H Q E h => ?_) (fun cdv A outer s H vs Q E hr h => ?_)
  · obtain ⟨a, p, rs, rfl, _⟩ := h
    rfl
  · obtain ⟨a, p, rs, rfl, hs, ⟨vs, ep, hv⟩, npa, hl, q⟩ := h
    have ll := line400
    refine ⟨_, (pss_cons (ps_set (i := 2) scGiv.nd rfl (.inl rfl) (pe_lst pa_nil))
      (pss_cons (ps_for PassesOwn.never rfl (pi_list (pv 1)) (pg_name (i := 3) scGiv.nd rfl (.inl rfl))
        (pss_one (ps_if (pt_cmpR op_isN (pv 3) pe_non (nomark _)) (pss_one (ps_expr (pe_bm PySem.F.plainAttrs_list PySem.F.slot_list_append PySem.F.type_list_append mt_append (pv 2) (pa_cons pe_non pa_nil))))
          (pss_one (ps_if (PW.pt (pw_and (pt_cmpR op_eq (pe_ix ix_tup (pv 3) pe_int (fun _ _ => rfl)) pe_int (nomark _)) (pw_and1 (pt_cmpR op_eq (pe_call GD hr (by rfl) T.gDraw T.FDraw.kp T.bDraw .nil pass0 (pa_cons (pv 0) (pa_cons pe_int pa_nil))) pe_int (nomark _)))))
            (pss_one (ps_expr (pe_bm PySem.F.plainAttrs_list PySem.F.slot_list_append PySem.F.type_list_append mt_append (pv 2) (pa_cons (pe_ix ix_tup (pv 3) pe_int (fun _ _ => rfl)) pa_nil))))
            (pss_one (ps_expr (pe_bm PySem.F.plainAttrs_list PySem.F.slot_list_append PySem.F.type_list_append mt_append (pv 2) (pa_cons (pe_make T.M GI hr (by rfl) T.rc.mgC T.b2 .nil pass0 (pa_cons (pe_ix ix_tup (pv 3) pe_int (fun _ _ => rfl)) (pa_cons (pe_ix ix_tup (pv 3) pe_int (fun _ _ => rfl)) pa_nil))) pa_nil)))))))))
      (pss_one (ps_ret (pe_callTy call_tuple_of (by rfl) T.tup (by decide +kernel) (pa_cons (pv 2) pa_nil)))))), ?_⟩
    refine ⟨(by show 0 ≤ sizeLine; omega), fun L hL => ?_⟩
    have nL : L ≠ a := Ne.symm (hs.ne hL)
    have S0 : Same H (upd H L (.lst [])) := same_new (Same.refl _) hL
    refine ⟨_, rfl, p, rfl, ⟨_, SqL.of (S0 _ _ ep)⟩, for_list (xs := vs) (fun i σ J => GLoop C a p L H rs i σ J) ⟨⟨_, rfl⟩, hs.same S0, (But.refl a H).same S0, [], upd_same, All2.nil⟩ (fun i σ J _ ⟨_, _, k, _⟩ => SqL.of (lst_but ep npa k)) ?_ ?_⟩
    · rintro i x σ J hx ⟨⟨o, rfl⟩, sJ, kJ, ys, ey, hy⟩
      obtain ⟨r, hr', rx⟩ := hv.get hx
      have rx := RN.but rx hs kJ
      have hi : i < rs.length := (List.getElem?_eq_some_iff.mp hr').1
      have yl : ys.length < sizeLine := by rw [hy.1, List.length_take]; omega
      refine ⟨_, rfl, rfl, _, rfl, ?_⟩
      cases r with
      | none =>
        have e : x = .non := rx
        subst e
        exact iteT ⟨_, rfl, .inl ⟨rfl, _, SqL.of ey⟩, L, ys, _, rfl, rfl, ey, yl, gloop_next hL nL hr' sJ kJ ey hy sJ (But.refl a J) rfl⟩
      | some q1 =>
        obtain ⟨t, rfl, et, sz⟩ := rx
        refine iteF ⟨_, rfl, t, _, 1, _, rfl, rfl, SqT.of et, at_of (j := 1) rfl rfl, rfl, _, rfl, ?_⟩
        have szd : ((q1.den : Int)).natAbs < 2 ^ PN := sz.2
        have fin : ∀ (J2 J3 : Hp) (y : Addr), SrcAt J2 a → But a J J2 → Same J2 J3 → RQ C J3 y PN (Rat.divInt q1.num (q1.den : Int)) → J3 L = some (.lst ys) ∧ GLoop C a p L H rs (i + 1) [some (.ref a), some (.ref p), some (.ref L), some (.ref t)] (upd J3 L (.lst (ys ++ [.ref y]))) := by
          intro J2 J3 y s2 k2 S3 rq
          rw [divInt_same] at rq
          exact ⟨S3 _ _ (lst_but ey nL k2), gloop_next hL nL hr' sJ kJ ey hy (s2.same S3) (k2.same S3) ⟨true, y, rfl, rq⟩⟩
        have d0 : (q1.den : Int) ≠ 0 := by have := q1.den_pos; omega
        refine ite2 (fun hc => ?_) (fun hc => ?_)
        · refine ⟨_, rfl, a, 2, rfl, (by decide), (by decide), sJ, fun d J2 e0 e1 s2 k2 => ⟨rfl, _, rfl, ?_⟩⟩
          have et2 := tup_but et sJ k2
          refine ite2 (fun hz => ?_) (fun hz => ?_)
          · have hden : (q1.den : Int) = 1 := V.int.inj (of_decide_eq_true hc)
            have hq : q1 = ((q1.num : Int) : Rat) := by
              have := divInt_same q1
              rw [hden] at this
              rw [← int_is]
              exact this.symm
            exact ⟨_, rfl, .inl ⟨rfl, _, SqL.of (lst_but ey nL k2)⟩, _, rfl, t, _, 0, _, rfl, rfl, SqT.of et2, at_of (j := 0) rfl rfl, L, ys, _, rfl, rfl, lst_but ey nL k2, yl, gloop_next hL nL hr' sJ kJ ey hy s2 k2 ⟨false, q1.num, rfl, hq, sz.1, by decide⟩⟩
          · refine ⟨_, rfl, .inl ⟨rfl, _, SqL.of (lst_but ey nL k2)⟩, _, rfl, t, _, 0, _, rfl, rfl, SqT.of et2, at_of (j := 0) rfl rfl, _, rfl, t, _, 1, _, rfl, rfl, SqT.of et2, at_of (j := 1) rfl rfl, fun x dx hx hd hn => mk_fin hx hd hn d0 sz.1 szd (by decide) fun H3 S3 rq => ⟨rfl, L, ys, _, rfl, rfl, (fin J2 H3 x s2 k2 S3 rq).1, yl, (fin J2 H3 x s2 k2 S3 rq).2⟩⟩
        · exact ⟨_, rfl, .inl ⟨rfl, _, SqL.of ey⟩, _, rfl, t, _, 0, _, rfl, rfl, SqT.of et, at_of (j := 0) rfl rfl, _, rfl, t, _, 1, _, rfl, rfl, SqT.of et, at_of (j := 1) rfl rfl, fun x dx hx hd hn => mk_fin hx hd hn d0 sz.1 szd (by decide) fun H3 S3 rq => ⟨rfl, L, ys, _, rfl, rfl, (fin J H3 x sJ (But.refl a J) S3 rq).1, yl, (fin J H3 x sJ (But.refl a J) S3 rq).2⟩⟩
    · rintro σ J ⟨⟨o, rfl⟩, sJ, kJ, ys, ey, hy⟩
      rw [hv.1, List.take_length] at hy
      refine ⟨_, rfl, L, _, rfl, .inl ⟨SqL.of ey, fun t ht => ?_⟩⟩
      generalize hE : upd J t _ = J2
      have et := upd_got hE
      have S2 := upd_stay hE ht
      exact q t J2 ⟨ys, et, hy.imp fun _ _ z => z.same S2⟩ (sJ.same S2) (kJ.same S2)
/-! ### the text of a row -/
def spWri : Sp := fun vs H Q _ => ∃ p rs, vs = [.ref p] ∧ RowAt PN H p rs ∧ rs.length ≤ 400 ∧ ∀ H', Same H H' → Q (.str (line rs)) H'
theorem RN.szs {H : Hp} {vs : List V} {rs : List Ent} (h : All2 (RN PN H) vs rs) : SzE PN rs := by
  intro q hq
  obtain ⟨i, hi, e⟩ := List.getElem_of_mem hq
  have hi' : i < vs.length := by rw [h.1]; exact hi
  obtain ⟨a, _, x⟩ := h.2 i vs[i] (some q) (List.getElem?_eq_getElem hi') (by rw [List.getElem?_eq_getElem hi, e])
  exact x.2
theorem strs_of {f : Ent → Str} {rs : List Ent} {ys : List V} {H : Hp} (hl : ys.length = rs.length) (hP : ∀ (k : Nat) (y : V), ys[k]? = some y → ∃ r, rs[k]? = some r ∧ y = V.str (f r)) : ys = (rs.map f).map V.str := by
  refine List.ext_getElem? fun i => ?_
  rw [List.map_map, List.getElem?_map]
  by_cases hi : i < ys.length
  · obtain ⟨r, e1, e2⟩ := hP i ys[i] (List.getElem?_eq_getElem hi)
    rw [e1, List.getElem?_eq_getElem hi, e2]
    rfl
  · rw [List.getElem?_eq_none (by omega), List.getElem?_eq_none (by omega)]
    rfl
theorem ok_Wri (T : Tx K mg C) : FnOk P w K mg base CX0 2 T.aWri T.dWri ["_law_row_here"] spWri := by
  have GN' : FnOk P w K mg base CX0 1 T.aNum T.dNum ["_law_pair_here"] spNumT := ok_Num T
  refine T.FWri.ok scWri (fun vs H Q E h => ?_) (fun cdv A outer s H vs Q E hr h => ?_)
  · obtain ⟨p, rs, rfl, _⟩ := h
    rfl
  · obtain ⟨p, rs, rfl, ⟨vs, ep, hv⟩, hl, q⟩ := h
    have ll := line400
    have sz : SzE 800 rs := SzE.mono (RN.szs hv) (by decide)
    refine ⟨_, (pss_one (ps_ret (pe_join pe_str (pe_lc (own := [("_law_pair_here", 1)]) (g := gName 1) (tt := tYes) rfl scWri.nd (pi_list (pv 0)) (blkOk_by (N := ["_law_row_here", "_law_pair_here"]) (sc := defScope sWri) (by decide +kernel)) (fun _ _ _ _ _ => pg_name (i := 1) scWri.nd rfl (Or.inl rfl)) (fun _ _ _ _ _ => pts_nil)
        (fun _ _ _ _ _ => pe_ifExp (pt_cmpR op_isN (pv 1) pe_non (nomark _)) pe_str (pe_call GN' hr (by rfl) T.gNum T.FNum.kp T.bNum .nil pass0 (pa_cons (pv 1) pa_nil))))))), ?_⟩
    refine ⟨⟨_, rfl⟩, _, rfl, p, rfl, ⟨_, SqL.of ep⟩, fun D hD => lcS_list (P := fun i y _ => ∃ r, rs[i]? = some r ∧ y = .str (estr r)) ?_ ?_ (SqL.of ep) (by rw [hv.1]; omega) hD ?_ ?_⟩
    · rintro k y H1 H2 S h; exact h
    · rintro k y H1 D1 xs zs hd h; exact h
    · intro i x H1 Q1 hx S1 z
      obtain ⟨r, hr', rx⟩ := hv.get hx
      refine ⟨_, rfl, rfl, _, rfl, ?_⟩
      cases r with
      | none =>
        have e : x = .non := rx
        subst e
        exact iteT (z _ _ (Same.refl _) ⟨none, hr', rfl⟩)
      | some q1 =>
        obtain ⟨t, rfl, pq⟩ := rx
        exact iteF ⟨_, rfl, t, q1, rfl, pq.same S1, z _ _ (Same.refl _) ⟨some q1, hr', rfl⟩⟩
    · intro H1 ys S1 hys hyl hP
      rw [strs_of (H := H1) (by rw [hyl, hv.1]) hP] at hys
      refine ⟨(" " : Str), D, rs.map estr, rfl, rfl, .inl (SqL.of hys), ?_, q H1 S1⟩
      have h1 := line_sum sz
      have e : (" " : Str).length = 1 := rfl
      rw [List.length_map, e]
      omega
end
end T07

/-! _law_shown_right: what a series shows. -/
namespace T07
open PySem PySem.Spec PyProof.Rows L2 SF SQ SK
section
variable {P : Program} {w : World} {K : PySem.W.Frag} {mg : Str → Option Value} {base : Heap} {C : Addr}
abbrev nSho : List Str := ["_law_made", "_law_row_here", "_law_due", "_law_pair_here", "_law_entry_here", "_law_missing", "_law_spot", "_law_line", "_law_seen"]
def spSho (C S : Addr) : Sp := fun vs H Q _ => ∃ m p rs, vs = [.ref m, .ref p] ∧ SerAt C S PN H m rs ∧ RowAt PN H p rs ∧ rs.length ≤ 300 ∧ ∀ H', Same H H' → Q (.bl true) H'
theorem rrepr_law (q : Rat) : (((("Ratio(" : Str) ++ tx q.num) ++ (", " : Str)) ++ tx q.den) ++ (")" : Str) = rrepr q := by
  unfold rrepr
  rw [emp_add]
theorem ok_erep (rs : List Ent) : (rs.map erep).all PyData.strOk = true := by
  rw [List.all_eq_true]
  intro x hx
  obtain ⟨r, _, rfl⟩ := List.mem_map.mp hx
  cases r with
  | none => show PyData.strOk ("None" : Str) = true; decide +kernel
  | some q => exact ok_rrepr q
theorem ok_Sho (T : Tx K mg C) : FnG P w K mg base CX0 9 T.aSho T.dSho ["_law_made", "_law_row_here"] (spSho C T.S) := by
  have GE : FnOk P w K mg base CX0 1 T.aSEnt T.dSEnt ["self"] (getSp T.S "_entries") := ok_SEnt T
  have GM : FnOk P w K mg base CX0 1 T.aSMis T.dSMis ["self"] (spSMis C T.S) := ok_SMis T
  have GLn : FnOk P w K mg base CX0 1 T.aSLen T.dSLen ["self"] (spSLen C T.S) := ok_SLen T
  have GSt : FnOk P w K mg base CX0 4 T.aSStr T.dSStr ["self"] (spSStr C T.S) := ok_SStr T
  have GRp : FnOk P w K mg base CX0 7 T.aSRepr T.dSRepr ["self"] (spSRepr C T.S) := ok_SRepr T
  have GRr : FnOk P w K mg base CX0 1 T.aRepr T.dRepr ["self"] (spRepr C) := ok_Repr T
  have GW : FnOk P w K mg base CX0 2 T.aWri T.dWri ["_law_row_here"] spWri := ok_Wri T
  refine okG T.FSho scSho (fun vs H Q E h => ?_) (fun cdv A outer s0 H vs Q E hgd hr h => ?_)
  · obtain ⟨m, p, rs, rfl, _⟩ := h
    rfl
  · obtain ⟨m, p, rs, rfl, hs, hrow, hl, q⟩ := h
    obtain ⟨dx, t, ha, ⟨vs, ht, hv⟩, _⟩ := hs.tup
    obtain ⟨ws, ep, hw⟩ := hrow
    have ll := line400
    have hr2 := hr.mono (show 2 ≤ 8 by decide)
    have hr4 := hr.mono (show 4 ≤ 8 by decide)
    have hr6 := hr.mono (show 6 ≤ 8 by decide)
    refine ⟨_, (pss_cons (ps_setLc (i := 2) (own := [("_law_pair_here", 3)]) (g := gName 3) (tt := tYes) rfl scSho.nd rfl rfl (sw_true rfl rfl rfl (by decide +kernel)) (pi_list (pv 1)) (blkOk_by (N := nSho) (sc := defScope sSho) (by decide +kernel)) (fun _ _ _ _ _ => pg_name (i := 3) scSho.nd rfl (Or.inl rfl)) (fun _ _ _ _ _ => pts_nil)
        (fun _ _ _ _ _ => pe_ifExp (pt_cmpR op_isN (pv 3) pe_non (nomark _)) pe_str (pe_op op_add_str (pe_op op_add_str (pe_op op_add_str (pe_op op_add_str pe_str (pe_callTy call_str_int (by rfl) T.rc.str_ (by decide +kernel) (pa_cons (pe_ix (ixT (K := K) rfl) (pv 3) pe_int (fun _ _ => rfl)) pa_nil))) pe_str) (pe_callTy call_str_int (by rfl) T.rc.str_ (by decide +kernel) (pa_cons (pe_ix (ixT (K := K) rfl) (pv 3) pe_int (fun _ _ => rfl)) pa_nil))) pe_str)))
      (pss_cons (ps_if (PW.pt (pw_or (pt_not (pt_val (pe_callB call_isi (by rfl) T.rc.isi (by decide +kernel) (pa_cons (pe_prop (E := E0) (pv 0) T.clS T.PSEnt GE hr2 T.bSEnt .nil pass0 rfl) (pa_cons (pe_bltn (v := .ty "tuple") (u := .type "tuple") (by rfl) T.tup (by decide +kernel) rfl) pa_nil)))))
        (pw_or1 (pt_cmpR (op_neD hr.units) (pe_lc (own := [("_law_entry_here", 4)]) (g := gName 4) (tt := tYes) rfl scSho.nd (pi_tup (pe_prop (E := E0) (pv 0) T.clS T.PSEnt GE hr2 T.bSEnt .nil pass0 rfl)) (blkOk_by (N := nSho) (sc := defScope sSho) (by decide +kernel)) (fun _ _ _ _ _ => pg_name (i := 4) scSho.nd rfl (Or.inl rfl)) (fun _ _ _ _ _ => pts_nil)
          (fun _ _ _ _ _ => pe_callB (callR_or call_reprN (call_reprOwn (E := E0) T.hRepr.h T.hRepr.i GRr T.bRepr hr2 pass0)) (by rfl) T.rc.repr_ (by decide +kernel) (pa_cons (pv 4) pa_nil))) (pv 2) (nomark _))))) (pss_one (ps_ret pe_bl)) pss_nil)
      (pss_cons (ps_set (i := 5) scSho.nd rfl (.inl rfl) (pe_callTy call_tuple_of (by rfl) T.tup (by decide +kernel) (pa_cons (pe_lc (own := [("_law_spot", 6)]) (g := gName 6) (tt := tTest (tOp (fun x y H Q => y = .non ∧ Q (.bl (decide (x = .non))) H) (tOp (rIxL K) (tVar 1) (tVar 6)) (tC .non))) rfl scSho.nd (pi_range1 rfl T.rc.range_ (pa_cons (pe_callB call_len_seq (by rfl) T.len (by decide +kernel) (pa_cons (pv 1) pa_nil)) pa_nil)) (blkOk_by (N := nSho) (sc := defScope sSho) (by decide +kernel)) (fun _ _ _ _ _ => pg_name (i := 6) scSho.nd rfl (Or.inl rfl))
          (fun _ _ _ _ _ => pts_one (pt_cmpR op_isN (pe_ix (ixL (K := K) rfl) (pv 1) (pv 6) (fun _ _ => rfl)) pe_non (nomark _))) (fun _ _ _ _ _ => pv 6)) pa_nil)))
      (pss_cons (ps_set (i := 7) scSho.nd rfl (.inl rfl) (pe_call GW hr2 (by rfl) T.gWri T.FWri.kp T.bWri .nil pass0 (pa_cons (pv 1) pa_nil)))
      (pss_cons (ps_set (i := 8) scSho.nd rfl (.inl rfl) (SX.pe_lstS (pa_cons (pe_prop (E := E0) (pv 0) T.clS T.PSMis GM hr2 T.bSMis .nil pass0 rfl)
        (pa_cons (pe_callB (call_lenOwn (E := E0) T.hSLen.h T.hSLen.i GLn T.bSLen hr2 pass0) (by rfl) T.len (by decide +kernel) (pa_cons (pv 0) pa_nil))
        (pa_cons (pe_callTy (call_strOwn (E := E0) T.hSStr.h T.hSStr.i GSt T.bSStr hr6 pass0) (by rfl) T.rc.str_ (by decide +kernel) (pa_cons (pv 0) pa_nil))
        (pa_cons (pe_callB (call_reprOwn (E := E0) T.hSRepr.h T.hSRepr.i GRp T.bSRepr hr pass0) (by rfl) T.rc.repr_ (by decide +kernel) (pa_cons (pv 0) pa_nil))
        (pa_cons (pe_callTy (call_boolLen (E := E0) T.sk.nb T.hSLen.h T.hSLen.i GLn T.bSLen hr4 pass0) (by rfl) T.rc.bool_ (by decide +kernel) (pa_cons (pv 0) pa_nil))
        (pa_cons (pe_cmpR (op_ents T hr4) (pe_prop (E := E0) (pv 0) T.clS T.PSEnt GE hr2 T.bSEnt .nil pass0 rfl) (pe_prop (E := E0) (pv 0) T.clS T.PSEnt GE hr2 T.bSEnt .nil pass0 rfl) (nomark _)) pa_nil))))))))
      (pss_one (ps_ret (pe_cmpR op_eq (pe_callB (SX.call_reprS hgd hr) (by rfl) T.rc.repr_ (by decide +kernel) (pa_cons (pv 8) pa_nil))
        (pe_callB (SX.call_reprS hgd hr) (by rfl) T.rc.repr_ (by decide +kernel) (pa_cons (SX.pe_lstS (pa_cons (pv 5) (pa_cons (pe_callB call_len_seq (by rfl) T.len (by decide +kernel) (pa_cons (pv 1) pa_nil)) (pa_cons (pv 7) (pa_cons (pe_op op_add_str (pe_op op_add_str pe_str (pv 7)) pe_str) (pa_cons (pe_cmpR op_gt (pe_callB call_len_seq (by rfl) T.len (by decide +kernel) (pa_cons (pv 1) pa_nil)) pe_int (nomark _)) (pa_cons pe_bl pa_nil))))))) pa_nil)) (nomark _))))))))), ?_⟩
    have s1 : ("Ratio(" : Str).length = 6 := rfl
    have s2 : (", " : Str).length = 2 := rfl
    have s3 : (")" : Str).length = 1 := rfl
    have l5 := line5
    refine ⟨_, rfl, p, rfl, ⟨_, SqL.of ep⟩, fun D hD => lcS_list (P := fun i y _ => ∃ r, rs[i]? = some r ∧ y = V.str (erep r)) (fun _ _ _ _ _ h => h) (fun _ _ _ _ _ _ _ h => h) (SqL.of ep) (by rw [hw.1]; omega) hD ?_ ?_⟩
    · intro i x H1 Q1 hx S1 z
      obtain ⟨r, hr', rx⟩ := hw.get hx
      refine ⟨_, rfl, rfl, _, rfl, ?_⟩
      cases r with
      | none =>
        have e : x = .non := rx
        subst e
        exact iteT (z _ _ (Same.refl _) ⟨none, hr', rfl⟩)
      | some x1 =>
        obtain ⟨u, rfl, et, sz⟩ := rx
        have et := S1 _ _ et
        have szd : (x1.den : Int).natAbs < 2 ^ PN := sz.2
        have t1 := tx_lenN sz.1
        have t2 := tx_lenN szd
        have fin := z (.str (rrepr x1)) H1 (Same.refl _) ⟨some x1, hr', rfl⟩
        rw [← rrepr_law] at fin
        refine iteF ⟨_, rfl, u, _, 0, _, rfl, rfl, SqT.of et, at_of (j := 0) rfl rfl, _, rfl, tlogN sz.1, _, _, rfl, rfl, ?_, _, _, rfl, rfl, ?_, _, rfl, u, _, 1, _, rfl, rfl, SqT.of et, at_of (j := 1) rfl rfl, _, rfl, tlogN szd, _, _, rfl, rfl, ?_, _, _, rfl, rfl, ?_, fin⟩
        · show _ + (tx x1.num).length ≤ _; omega
        · rw [Str.length_append]; show _ + (tx x1.num).length + _ ≤ _; omega
        · simp only [Str.length_append]; show _ + (tx x1.num).length + _ + (tx (x1.den : Int)).length ≤ _; omega
        · simp only [Str.length_append]; show _ + (tx x1.num).length + _ + (tx (x1.den : Int)).length + _ ≤ _; omega
    intro H1 ys S1 hys hyl hP
    rw [strs_of (H := H1) (by rw [hyl, hw.1]) hP] at hys
    have ha1 := S1 _ _ ha
    refine ⟨_, rfl, m, dx, _, rfl, ha1, m, dx, _, _, rfl, ha1, ent_look t, _, _, _, _, true, rfl, .ty _, (Dec.tup (S1 _ _ ht)).typ, kit_ty (by decide +kernel), true, rfl, ?_⟩
    refine iteF ⟨_, rfl, m, dx, _, rfl, ha1, m, dx, _, _, rfl, ha1, ent_look t, t, rfl, ⟨_, SqT.of (S1 _ _ ht)⟩, fun D2 hD2 => lcS_tup (P := fun i y _ => ∃ r, rs[i]? = some r ∧ y = V.str (erep r)) (fun _ _ _ _ _ h => h) (fun _ _ _ _ _ _ _ h => h) (SqT.of (S1 _ _ ht)) (by rw [hv.1]; omega) hD2 ?_ ?_⟩
    · intro i x H2 Q1 hx S2 z
      obtain ⟨r, hr', rx⟩ := hv.get hx
      refine ⟨_, rfl, ?_⟩
      cases r with
      | none =>
        have e : x = .non := rx
        subst e
        exact .inl ⟨rfl, z _ _ (Same.refl _) ⟨none, hr', rfl⟩⟩
      | some x1 =>
        obtain ⟨b, rfl, ⟨dy, hb⟩, sz⟩ := rx
        have hb2 := S2 _ _ (S1 _ _ hb)
        exact .inr ⟨b, dy, _, rfl, hb2, b, PN, x1, rfl, ⟨⟨dy, hb2⟩, sz⟩, (by decide), _, rfl, z _ _ (Same.refl _) ⟨some x1, hr', rfl⟩⟩
    intro H2 ys2 S2 hys2 hyl2 hP2
    rw [strs_of (H := H2) (by rw [hyl2, hv.1]) hP2] at hys2
    have okE := ok_erep rs
    refine ⟨_, rfl, _, _, .lst (SqL.of hys2) (dp_strs _), .lst (SqL.of (S2 _ _ hys)) (dp_strs _), shaped_strs okE, shaped_strs okE, _, rfl, ?_⟩
    have e0 : PyData.eqv (.list ((rs.map erep).map .str)) (.list ((rs.map erep).map .str)) = true := by
      show PyData.eqvAll _ _ = true
      rw [eqv_strs]
      simp
    rw [e0]
    refine iteF ?_
    have S12 := S1.trans S2
    have ep2 := S12 _ _ ep
    refine ⟨_, rfl, p, _, rfl, .inl (SqL.of ep2), ?_⟩
    rw [hw.1]
    refine ⟨_, rfl, by omega, by omega, fun D3 hD3 => lc_range (lo := 0) (n := rs.length) (fun i J => Same H2 J ∧ J D3 = some (.lst ((gapsTo rs i).map fun k => V.int (k : Nat)))) ⟨same_new (Same.refl _) hD3, upd_same⟩ ?_ ?_⟩
    · rintro i J hi ⟨S3, e3⟩
      have hiw : i < ws.length := by rw [hw.1]; exact hi
      obtain ⟨r, hr', rx⟩ := hw.get (List.getElem?_eq_getElem hiw)
      have gl := gaps_len rs i
      have st := gaps_step rs i
      refine ⟨rfl, _, rfl, _, rfl, p, ws, _, ws[i], rfl, rfl, SqL.of (S3 _ _ ep2), by rw [Int.zero_add]; exact atI_nat (List.getElem?_eq_getElem hiw), rfl, _, rfl, ?_⟩
      refine ite2 (fun hc => ?_) (fun hc => ?_)
      · have er : rs[i]? = some none := by
          cases r with
          | none => exact hr'
          | some x1 => obtain ⟨u, e, _⟩ := rx; rw [e] at hc; exact absurd (of_decide_eq_true hc) (fun z => by cases z)
        rw [if_pos er] at st
        refine ⟨_, rfl, _, e3, by rw [List.length_map]; omega, fun b o hb => ?_, ?_⟩
        · rw [upd_ne (ne_of_none hb hD3)]
          exact S3 _ _ hb
        · rw [upd_same, st, List.map_append, Int.zero_add]
          rfl
      · have er : rs[i]? ≠ some none := by
          intro z
          rw [hr'] at z
          cases z
          exact hc (decide_eq_true rx)
        rw [if_neg er, List.append_nil] at st
        exact ⟨S3, by rw [st]; exact e3⟩
    rintro J ⟨S3, e3⟩
    refine ⟨D3, _, rfl, .inl ⟨SqL.of e3, fun tm htm => ?_⟩⟩
    generalize hE : upd J tm _ = H4
    have em : H4 tm = some (.tup (gapV rs)) := upd_got hE
    have S4 := upd_stay hE htm
    have S14 := (S12.trans S3).trans S4
    have rw4 : RowAt PN H4 p rs := RowAt.same ⟨ws, ep, hw⟩ S14
    refine ⟨_, rfl, p, rs, rfl, rw4, by omega, fun H5 S5 => ?_⟩
    have S15 := S14.trans S5
    have hs5 := hs.same S15
    refine ⟨_, rfl, m, dx, _, rfl, S15 _ _ ha, m, rs, rfl, hs5, fun t2 H6 S6 e6 => ?_⟩
    have S16 := S15.trans S6
    refine ⟨_, rfl, m, dx, _, rfl, S16 _ _ ha, m, rs, rfl, hs.same S16, _, rfl, by omega, by omega, ?_⟩
    refine ⟨_, rfl, m, dx, _, rfl, S16 _ _ ha, m, rs, rfl, hs.same S16, fun H7 S7 => ⟨_, rfl, ?_⟩⟩
    have S17 := S16.trans S7
    refine ⟨_, rfl, m, dx, _, rfl, S17 _ _ ha, m, rs, rfl, hs.same S17, fun H8 S8 => ⟨_, rfl, ?_⟩⟩
    have S18 := S17.trans S8
    refine ⟨_, rfl, m, dx, _, rfl, S18 _ _ ha, m, rs, rfl, hs.same S18, _, rfl, by omega, by omega, ?_⟩
    have ha8 := S18 _ _ ha
    have hv8 := hv.imp fun v r (z : EN C PN H v r) => z.same S18
    refine ⟨_, rfl, m, dx, _, rfl, ha8, m, dx, _, _, rfl, ha8, ent_look t, _, rfl, m, dx, _, rfl, ha8, m, dx, _, _, rfl, ha8, ent_look t, ?_⟩
    refine ⟨t, t, vs, vs, _, rfl, rfl, SqT.of (S18 _ _ ht), SqT.of (S18 _ _ ht), rows_ent hv8 hv8, fun H9 S9 => ?_⟩
    rw [hv.1, all_ent, decide_eq_true rfl]
    refine ⟨(by show 6 ≤ sizeLine; omega), fun L hL nL => ?_⟩
    generalize hE : upd H9 L _ = HA
    have eA := upd_got hE
    have SA := upd_stay hE hL
    have sz8 : SzE 800 rs := SzE.mono (EN.sz hv) (by decide)
    obtain ⟨k1, k2, k3⟩ := seen_ok (rs := rs) (by omega) sz8
    have S6A := ((S7.trans S8).trans S9).trans SA
    have sd1 : SX.Sd HA (.ref L) (seenD rs) := .lst nL eA (.cons (.tup (S6A _ _ e6) (sd_gaps _)) (.cons (.int _) (.cons (.str _) (.cons (.str _) (.cons (.bl _) (.cons (.bl _) .nil))))))
    refine ⟨_, rfl, L, _, rfl, sd1, k1, k2, k3, ?_⟩
    have epA := (S16.trans S6A) _ _ ep
    refine ⟨_, rfl, _, rfl, p, _, rfl, .inl (SqL.of epA), _, rfl, _, rfl, _, _, rfl, rfl, ?_, _, _, rfl, rfl, ?_, _, rfl, p, _, rfl, .inl (SqL.of epA), _, _, rfl, rfl, ?_⟩
    · have h1 := line_len sz8
      have h2 := line_big
      show 8 + (line rs).length ≤ _
      omega
    · have h1 := line_len sz8
      have h2 := line_big
      rw [Str.length_append]
      show 8 + (line rs).length + 2 ≤ _
      omega
    refine ⟨(by show 6 ≤ sizeLine; omega), fun L2 hL2 nL2 => ?_⟩
    generalize hE : upd HA L2 _ = HB
    have eB := upd_got hE
    have SB := upd_stay hE hL2
    have eb : decide ((0 : Int) < ((rs.length : Nat) : Int)) = (((rs.length : Nat) : Int) != 0) := by
      by_cases h : rs.length = 0
      · rw [h]; rfl
      · rw [decide_eq_true (by omega)]
        exact (bne_iff_ne.mpr (by omega)).symm
    dsimp only at eB
    rw [hw.1, eb, ← srepr_is] at eB
    have sd2 : SX.Sd HB (.ref L2) (seenD rs) := .lst nL2 eB (.cons (.tup ((S5.trans (S6.trans S6A)).trans SB _ _ em) (sd_gaps _)) (.cons (.int _) (.cons (.str _) (.cons (.str _) (.cons (.bl _) (.cons (.bl _) .nil))))))
    refine ⟨L2, _, rfl, sd2, k1, k2, k3, rfl, ?_⟩
    rw [decide_eq_true rfl]
    exact q HB ((S16.trans S6A).trans SB)
end
end T07

/-! Rows as data, compared; slices of rows. -/
namespace SK
open PySem PySem.Spec PyProof.Rows L2 SF SQ
def entD : Ent → PyData
  | none => .none
  | some q => .tuple [.int q.num, .int (q.den : Int)]
def rowD (rs : List Ent) : PyData := .list (rs.map entD)
theorem ent_eqv (r r' : Ent) : PyData.eqv (entD r) (entD r') = decide (r = r') := by
  cases r with
  | none => cases r' with
    | none => rfl
    | some q => rfl
  | some q => cases r' with
    | none => rfl
    | some q' =>
      show (PyData.eqv (.int q.num) (.int q'.num) && (PyData.eqv (.int (q.den : Int)) (.int (q'.den : Int)) && true)) = _
      have e1 : ∀ i j : Int, PyData.eqv (.int i) (.int j) = decide (i = j) := fun i j => by
        show (i == j) = _
        by_cases h : i = j
        · subst h; simp
        · simp [h]
      rw [e1, e1, Bool.and_true]
      by_cases h : q = q'
      · subst h; simp
      · have h2 : ¬ (some q = some q') := fun z => h (Option.some.inj z)
        rw [decide_eq_false h2]
        by_cases h3 : q.num = q'.num
        · have h4 : ¬ ((q.den : Int) = (q'.den : Int)) := fun z => h (Rat.ext h3 (Int.ofNat.inj z))
          rw [decide_eq_false h4, Bool.and_false]
        · rw [decide_eq_false h3, Bool.false_and]
theorem row_eqvAll : ∀ rs rs' : List Ent, PyData.eqvAll (rs.map entD) (rs'.map entD) = decide (rs = rs')
  | [], [] => rfl
  | [], _ :: _ => rfl
  | _ :: _, [] => rfl
  | r :: t, r' :: t' => by
    show (PyData.eqv (entD r) (entD r') && PyData.eqvAll (t.map entD) (t'.map entD)) = _
    rw [ent_eqv, row_eqvAll t t']
    by_cases h : r = r'
    · subst h
      by_cases h2 : t = t'
      · subst h2; simp
      · simp [h2]
    · simp [h]
theorem row_eqv (rs rs' : List Ent) : PyData.eqv (rowD rs) (rowD rs') = decide (rs = rs') := row_eqvAll rs rs'
theorem shaped_ent (r : Ent) : SeqAt.shaped (entD r) = true := by
  cases r with
  | none => rfl
  | some q => rfl
theorem ent_depth (r : Ent) : (entD r).depth ≤ 1 := by
  cases r with
  | none => decide
  | some q => show max 0 (max 0 0) + 1 ≤ 1; decide
theorem rows_depth : ∀ rs : List Ent, PyData.depthAll (rs.map entD) ≤ 1
  | [] => by decide
  | r :: t => by
    show max (entD r).depth (PyData.depthAll (t.map entD)) ≤ 1
    have := ent_depth r
    have := rows_depth t
    omega
theorem rows_lay : ∀ rs : List Ent, PyData.canLayAll0 (rs.map entD) = true
  | [] => rfl
  | r :: t => by
    show (PyData.canLay0 (entD r) && PyData.canLayAll0 (t.map entD)) = true
    rw [rows_lay t, Bool.and_true]
    cases r <;> rfl
theorem shaped_row (rs : List Ent) : SeqAt.shaped (rowD rs) = true := by
  unfold SeqAt.shaped
  refine Bool.and_eq_true_iff.mpr ⟨rows_lay rs, decide_eq_true ?_⟩
  show PyData.depthAll (rs.map entD) + 1 ≤ 64
  have := rows_depth rs
  omega
theorem dp_ent {K : PySem.W.Frag} {n : Nat} {H : Hp} {v : V} {r : Ent} (h : RN n H v r) : Dp K H v (entD r) := by
  cases r with
  | none =>
    have h : v = .non := h
    subst h
    exact .non
  | some q =>
    obtain ⟨p, rfl, e, _⟩ := h
    exact .tup (SqT.of e) (.cons (.int _) (.cons (.int _) .nil))
theorem dp_ents {K : PySem.W.Frag} {n : Nat} {H : Hp} : ∀ {vs : List V} {rs : List Ent}, All2 (RN n H) vs rs → DpAll K H vs (rs.map entD)
  | [], [], _ => .nil
  | [], _ :: _, h => by cases h.1
  | _ :: _, [], h => by cases h.1
  | v :: vs, r :: rs, h => .cons (dp_ent (h.2 0 v r rfl rfl)) (dp_ents ⟨by have := h.1; simpa using this, fun i x y hx hy => h.2 (i + 1) x y (by simpa using hx) (by simpa using hy)⟩)
theorem dp_row {K : PySem.W.Frag} {n : Nat} {H : Hp} {p : Addr} {rs : List Ent} (h : RowAt n H p rs) : Dp K H (.ref p) (rowD rs) := let ⟨vs, e, hv⟩ := h; .lst (SqL.of e) (dp_ents hv)
theorem mem_cut {xs : List V} {a b : Option Int} {v : V} (h : v ∈ cutV xs a b) : v ∈ xs := List.mem_of_mem_drop (List.mem_of_mem_take h)
theorem cut_front (xs : List V) {k : Nat} (h : k ≤ xs.length) : (cutV xs none (some (k : Int))).length ≤ k := by
  unfold cutV
  rw [List.length_take, HT.sIx_nat, HT.sIx_none]
  omega
theorem cut_back (xs : List V) {k : Nat} : (cutV xs (some ((k : Int) + 1)) none).length ≤ xs.length - (k + 1) := by
  unfold cutV
  have e : ((k : Int) + 1) = ((k + 1 : Nat) : Int) := by omega
  rw [List.length_take, List.length_drop, e, HT.sIx_nat, HT.sIx_none]
  omega
end SK

/-! _law_other: a row that differs. -/
namespace T07
open PySem PySem.Spec PyProof.Rows L2 SF SQ SK
section
variable {P : Program} {w : World} {K : PySem.W.Frag} {mg : Str → Option Value} {base : Heap} {C : Addr}
def spOth : Sp := fun vs H Q _ => ∃ a p rs, vs = [.ref a, .ref p] ∧ SrcAt H a ∧ RowAt PN H p rs ∧ p ≠ a ∧ rs.length ≤ 200 ∧ ∀ rs' p' H', rs'.length ≤ 201 → RowAt PN H' p' rs' → p' ≠ a → SrcAt H' a → But a H H' → Q (.ref p') H'
theorem row_of {H : Hp} {p : Addr} {ys : List V} (e : H p = some (.lst ys)) (h : ∀ v ∈ ys, ∃ r, RN PN H v r) : ∃ rs, rs.length = ys.length ∧ RowAt PN H p rs := by
  obtain ⟨rs, hr⟩ := mem_all2 h
  exact ⟨rs, hr.1.symm, ys, e, hr⟩
theorem ok_Oth (T : Tx K mg C) : FnOk P w K mg base CX0 5 T.aOth T.dOth ["_law_source_here", "_law_row_here"] spOth := by
  have GD : FnOk P w K mg base CX0 4 T.aDraw T.dDraw ["_law_source_here", "_law_many"] spDraw := (ok_draw T.FDraw T.blt).mono (by decide)
  have GE : FnOk P w K mg base CX0 4 T.aEnt T.dEnt ["_law_source_here"] spEnt := ok_Ent T
  refine T.FOth.ok scOth (fun vs H Q E h => ?_) (fun cdv A outer s H vs Q E hr h => ?_)
  · obtain ⟨a, p, rs, rfl, _⟩ := h
    rfl
  · obtain ⟨a, p, rs, rfl, hs, hrow, npa, hl, q⟩ := h
    have ll := line400
    refine ⟨_, (pss_cons (ps_set (i := 2) scOth.nd rfl (.inl rfl) (pe_call GD hr (by rfl) T.gDraw T.FDraw.kp T.bDraw .nil pass0 (pa_cons (pv 0) (pa_cons pe_int pa_nil))))
      (pss_cons (ps_if (PW.pt (pw_or (pt_cmpR op_eq (pv 2) pe_int (nomark _)) (pw_or1 (pt_cmpR (op_eqD hr.units) (pv 1) (pe_lst pa_nil) (nomark _))))) (pss_one (ps_ret (pe_op op_cat (pv 1) (pe_lst (pa_cons (pe_call GE hr (by rfl) T.gEnt T.FEnt.kp T.bEnt .nil pass0 (pa_cons (pv 0) pa_nil)) pa_nil))))) pss_nil)
      (pss_cons (ps_set (i := 3) scOth.nd rfl (.inl rfl) (pe_call GD hr (by rfl) T.gDraw T.FDraw.kp T.bDraw .nil pass0 (pa_cons (pv 0) (pa_cons (pe_callB call_len_seq (by rfl) T.len (by decide +kernel) (pa_cons (pv 1) pa_nil)) pa_nil))))
      (pss_cons (ps_if (pt_cmpR op_eq (pv 2) pe_int (nomark _)) (pss_one (ps_ret (pe_op op_cat (pe_slice sl_list (pv 1) po_none (po_some (pv 3))) (pe_slice sl_list (pv 1) (po_some (pe_op op_add (pv 3) pe_int)) po_none)))) pss_nil)
      (pss_cons (ps_if (PW.pt (pw_or (pt_cmpR op_eq (pv 2) pe_int (nomark _)) (pw_or1 (pt_cmpR op_isN (pe_ix ix_list (pv 1) (pv 3) (fun _ _ => rfl)) pe_non (nomark _)))))
          (pss_one (ps_ret (pe_op op_cat (pe_op op_cat (pe_slice sl_list (pv 1) po_none (po_some (pv 3))) (pe_lst (pa_cons (pe_ifExp (pt_cmpR op_notN (pe_ix ix_list (pv 1) (pv 3) (fun _ _ => rfl)) pe_non (nomark _)) pe_non (pe_tup (pa_cons pe_int (pa_cons pe_int pa_nil)))) pa_nil))) (pe_slice sl_list (pv 1) (po_some (pe_op op_add (pv 3) pe_int)) po_none)))) pss_nil)
      (pss_one (ps_ret (pe_op op_cat (pe_op op_cat (pe_slice sl_list (pv 1) po_none (po_some (pv 3))) (pe_lst (pa_cons (pe_ifExp (pt_cmpR (op_eqD hr.units) (pe_ix ix_list (pv 1) (pv 3) (fun _ _ => rfl)) (pe_tup (pa_cons pe_int (pa_cons pe_int pa_nil))) (nomark _)) (pe_tup (pa_cons pe_int (pa_cons pe_int pa_nil))) (pe_tup (pa_cons pe_int (pa_cons pe_int pa_nil)))) pa_nil))) (pe_slice sl_list (pv 1) (po_some (pe_op op_add (pv 3) pe_int)) po_none))))))))), ?_⟩
    refine ⟨_, rfl, a, 4, rfl, (by decide), (by decide), hs, fun d H1 d0 d1 s1 k1 => ⟨_, rfl, rfl, _, rfl, ?_⟩⟩
    obtain ⟨vs, e, hv⟩ := hrow
    have eJ : ∀ J, But a H J → J p = some (.lst vs) := fun J k => lst_but e npa k
    have mJ : ∀ J, But a H J → ∀ v ∈ vs, ∃ r, RN PN J v r := fun J k v hm => by
      obtain ⟨i, hi, ei⟩ := List.getElem_of_mem hm
      obtain ⟨r, _, rx⟩ := hv.get (List.getElem?_eq_getElem hi)
      rw [ei] at rx
      exact ⟨r, RN.but rx hs k⟩
    have rowJ : ∀ J, But a H J → RowAt PN J p rs := fun J k => ⟨vs, eJ J k, hv.imp fun v r z => RN.but z hs k⟩
    have fin : ∀ (J : Hp) (p' : Addr) (ys : List V), SrcAt J a → But a H J → (∀ v ∈ ys, ∃ r, RN PN J v r) → ys.length ≤ 201 → J p' = none → Q (.ref p') (upd J p' (.lst ys)) := by
      intro J p' ys sJ kJ my ly hp'
      have S := same_new (o := .lst ys) (Same.refl J) hp'
      obtain ⟨rs', l', r'⟩ := row_of (H := upd J p' (.lst ys)) (p := p') upd_same fun v hm => let ⟨r, z⟩ := my v hm; ⟨r, z.same S⟩
      exact q rs' p' _ (by omega) r' (Ne.symm (sJ.ne hp')) (sJ.same S) (kJ.same S)
    have lv : vs.length ≤ 200 := by rw [hv.1]; exact hl
    have add : ∀ (J : Hp), SrcAt J a → But a H J → ∀ (r : Ent) (v : V) (J2 : Hp), RN PN J2 v r → SrcAt J2 a → But a J J2 → ∀ L, J2 L = none → ∃ p' q' xs ys, V.ref p = .ref p' ∧ V.ref L = .ref q' ∧ upd J2 L (.lst [v]) p' = some (.lst xs) ∧ upd J2 L (.lst [v]) q' = some (.lst ys) ∧ xs.length + ys.length ≤ sizeLine ∧ ∀ t, upd J2 L (.lst [v]) t = none → Q (.ref t) (upd (upd J2 L (.lst [v])) t (.lst (xs ++ ys))) := by
      intro J sJ kJ r v J2 rv s2 k2 L hL
      have S := same_new (o := .lst [v]) (Same.refl J2) hL
      have k3 := (kJ.trans k2).same S
      refine ⟨p, L, vs, [v], rfl, rfl, eJ _ k3, upd_same, by show vs.length + 1 ≤ _; omega, fun t ht => fin _ t _ (s2.same S) k3 (fun u hu => ?_) (by rw [List.length_append]; show vs.length + 1 ≤ _; omega) ht⟩
      rcases List.mem_append.mp hu with h | h
      · exact mJ _ k3 u h
      · rw [List.mem_singleton.mp h]; exact ⟨r, rv.same S⟩
    refine ite2 (fun _ => ?_) (fun _ => ?_)
    · exact ⟨_, rfl, _, rfl, a, rfl, s1, fun r v J2 rv s2 k2 => ⟨(by show 1 ≤ sizeLine; omega), fun L hL => add H1 s1 k1 r v J2 rv s2 k2 L hL⟩⟩
    refine ⟨_, rfl, (by show 0 ≤ sizeLine; omega), fun pn hn => ?_⟩
    generalize hE : upd H1 pn _ = H2
    have en : H2 pn = some (.lst []) := upd_got hE
    have S2 := upd_stay hE hn
    have s2 := s1.same S2
    have k2 := k1.same S2
    refine ⟨rowD rs, rowD [], dp_row (rowJ H2 k2), .lst (SqL.of en) .nil, shaped_row rs, shaped_row [], _, rfl, ?_⟩
    rw [row_eqv]
    refine ite2 (fun _ => ?_) (fun hc => ?_)
    · exact ⟨_, rfl, _, rfl, a, rfl, s2, fun r v J2 rv s3 k3 => ⟨(by show 1 ≤ sizeLine; omega), fun L hL => add H2 s2 k2 r v J2 rv s3 k3 L hL⟩⟩
    have hne : rs ≠ [] := fun z => hc (decide_eq_true z)
    have l0 : 0 < vs.length := by rw [hv.1]; exact List.length_pos_iff.mpr hne
    refine ⟨_, rfl, _, rfl, p, _, rfl, .inl (SqL.of (eJ H2 k2)), a, _, rfl, (by omega), (by omega), s2, fun sp H3 p0 p1 s3 k3' => ?_⟩
    have k3 := k2.trans k3'
    obtain ⟨n, rfl⟩ : ∃ n : Nat, sp = (n : Int) := ⟨sp.toNat, by omega⟩
    have nl : n < vs.length := by omega
    have e3 := eJ H3 k3
    refine ⟨_, rfl, rfl, _, rfl, ?_⟩
    have cf := cut_front vs (k := n) (by omega)
    have cb := cut_back vs (k := n)
    have mf : ∀ v ∈ cutV vs none (some (n : Int)), v ∈ vs := fun v h => mem_cut h
    have mb : ∀ v ∈ cutV vs (some ((n : Int) + 1)) none, v ∈ vs := fun v h => mem_cut h
    have glue : ∀ (J : Hp) (pm : Addr) (v : V), SrcAt J a → But a H J → (∃ r, RN PN J v r) → J pm = some (.lst (cutV vs none (some (n : Int)) ++ [v])) → ∀ pb, J pb = none → ∃ p' q' xs ys, V.ref pm = .ref p' ∧ V.ref pb = .ref q' ∧ upd J pb (.lst (cutV vs (some ((n : Int) + 1)) none)) p' = some (.lst xs) ∧ upd J pb (.lst (cutV vs (some ((n : Int) + 1)) none)) q' = some (.lst ys) ∧ xs.length + ys.length ≤ sizeLine ∧ ∀ t, upd J pb (.lst (cutV vs (some ((n : Int) + 1)) none)) t = none → Q (.ref t) (upd (upd J pb (.lst (cutV vs (some ((n : Int) + 1)) none))) t (.lst (xs ++ ys))) := by
      intro J pm v sJ kJ ⟨r, rv⟩ em pb hb
      have S := same_new (o := .lst (cutV vs (some ((n : Int) + 1)) none)) (Same.refl J) hb
      have k5 := kJ.same S
      refine ⟨pm, pb, _, _, rfl, rfl, S _ _ em, upd_same, by rw [List.length_append]; show _ + 1 + _ ≤ _; omega, fun t ht => fin _ t _ (sJ.same S) k5 (fun u hu => ?_) (by rw [List.length_append, List.length_append]; show _ + 1 + _ ≤ _; omega) ht⟩
      rcases List.mem_append.mp hu with h | h
      · rcases List.mem_append.mp h with h | h
        · exact mJ _ k5 u (mf u h)
        · rw [List.mem_singleton.mp h]; exact ⟨r, rv.same S⟩
      · exact mJ _ k5 u (mb u h)
    have front : ∀ (J : Hp), SrcAt J a → But a H J → ∀ pf, J pf = none → SrcAt (upd J pf (.lst (cutV vs none (some (n : Int))))) a ∧ But a H (upd J pf (.lst (cutV vs none (some (n : Int))))) := fun J sJ kJ pf hf => ⟨sJ.same (same_new (Same.refl J) hf), kJ.same (same_new (Same.refl J) hf)⟩
    refine ite2 (fun _ => ?_) (fun _ => ?_)
    · refine ⟨_, rfl, _, rfl, _, rfl, p, vs, rfl, SqL.of e3, fun pf hf => ?_⟩
      obtain ⟨s4, k4⟩ := front H3 s3 k3 pf hf
      have ef : upd H3 pf (.lst (cutV vs none (some (n : Int)))) pf = some (.lst (cutV vs none (some (n : Int)))) := upd_same
      generalize upd H3 pf _ = H4 at s4 k4 ef
      refine ⟨_, rfl, _, rfl, _, _, rfl, rfl, _, rfl, p, vs, rfl, SqL.of (eJ H4 k4), fun pb hb => ?_⟩
      have S := same_new (o := .lst (cutV vs (some ((n : Int) + 1)) none)) (Same.refl H4) hb
      have k5 := k4.same S
      refine ⟨pf, pb, _, _, rfl, rfl, S _ _ ef, upd_same, by omega, fun t ht => fin _ t _ (s4.same S) k5 (fun u hu => ?_) (by rw [List.length_append]; omega) ht⟩
      rcases List.mem_append.mp hu with h | h
      · exact mJ _ k5 u (mf u h)
      · exact mJ _ k5 u (mb u h)
    have sz0 : Sz PN (0 : Rat) := Sz.int (i := 0) (by decide) (by decide)
    have sz1 : Sz PN (1 : Rat) := Sz.int (i := 1) (by decide) (by decide)
    refine ⟨_, rfl, rfl, _, rfl, ?_⟩
    refine ite2 (fun _ => ?_) (fun _ => ?_)
    · refine ⟨_, rfl, _, rfl, _, rfl, p, vs, rfl, SqL.of e3, fun pf hf => ?_⟩
      obtain ⟨s4, k4⟩ := front H3 s3 k3 pf hf
      have ef : upd H3 pf (.lst (cutV vs none (some (n : Int)))) pf = some (.lst (cutV vs none (some (n : Int)))) := upd_same
      generalize upd H3 pf (.lst (cutV vs none (some (n : Int)))) = H4 at s4 k4 ef
      refine ⟨_, rfl, _, rfl, p, vs, _, vs[n], rfl, rfl, SqL.of (eJ H4 k4), atI_nat (List.getElem?_eq_getElem nl), rfl, _, rfl, ?_⟩
      refine ite2 (fun _ => ?_) (fun _ => ?_)
      · refine ⟨(by show 1 ≤ sizeLine; omega), fun pl hpl => ?_⟩
        have Sl := same_new (o := .lst [.non]) (Same.refl H4) hpl
        have sl := s4.same Sl
        have kl := k4.same Sl
        have rvl : ∃ r, RN PN (upd H4 pl (.lst [.non])) (.non) r := let ⟨r, z⟩ := (⟨none, rfl⟩ : ∃ r, RN PN H4 .non r); ⟨r, z.same Sl⟩
        have efl := Sl _ _ ef
        have ell : upd H4 pl (.lst [.non]) pl = some (.lst [.non]) := upd_same
        generalize upd H4 pl (.lst [.non]) = Hl at sl kl rvl efl ell
        refine ⟨pf, pl, _, _, rfl, rfl, efl, ell, (by show _ + 1 ≤ _; omega), fun pm hpm => ?_⟩
        have Sm := same_new (o := .lst (cutV vs none (some (n : Int)) ++ [.non])) (Same.refl Hl) hpm
        have sm := sl.same Sm
        have km := kl.same Sm
        have rvm : ∃ r, RN PN (upd Hl pm (.lst (cutV vs none (some (n : Int)) ++ [.non]))) (.non) r := let ⟨r, z⟩ := rvl; ⟨r, z.same Sm⟩
        have emm : upd Hl pm (.lst (cutV vs none (some (n : Int)) ++ [.non])) pm = some (.lst (cutV vs none (some (n : Int)) ++ [.non])) := upd_same
        generalize upd Hl pm (.lst (cutV vs none (some (n : Int)) ++ [.non])) = Hm at sm km rvm emm
        exact ⟨_, rfl, _, rfl, _, _, rfl, rfl, _, rfl, p, vs, rfl, SqL.of (eJ Hm km), fun pb hb => glue Hm pm _ sm km rvm emm pb hb⟩
      · refine ⟨(by show 2 ≤ sizeLine; omega), fun pt hpt => ?_⟩
        have St := same_new (o := .tup [.int 0, .int 1]) (Same.refl H4) hpt
        have st := s4.same St
        have kt := k4.same St
        have rt : ∃ r, RN PN (upd H4 pt (.tup [.int 0, .int 1])) (.ref pt) r := ⟨some (0 : Rat), pt, rfl, upd_same, sz0⟩
        have ef := St _ _ ef
        generalize upd H4 pt (.tup [.int 0, .int 1]) = Ht at st kt rt ef
        refine ⟨(by show 1 ≤ sizeLine; omega), fun pl hpl => ?_⟩
        have Sl := same_new (o := .lst [.ref pt]) (Same.refl Ht) hpl
        have sl := st.same Sl
        have kl := kt.same Sl
        have rvl : ∃ r, RN PN (upd Ht pl (.lst [.ref pt])) (.ref pt) r := let ⟨r, z⟩ := rt; ⟨r, z.same Sl⟩
        have efl := Sl _ _ ef
        have ell : upd Ht pl (.lst [.ref pt]) pl = some (.lst [.ref pt]) := upd_same
        generalize upd Ht pl (.lst [.ref pt]) = Hl at sl kl rvl efl ell
        refine ⟨pf, pl, _, _, rfl, rfl, efl, ell, (by show _ + 1 ≤ _; omega), fun pm hpm => ?_⟩
        have Sm := same_new (o := .lst (cutV vs none (some (n : Int)) ++ [.ref pt])) (Same.refl Hl) hpm
        have sm := sl.same Sm
        have km := kl.same Sm
        have rvm : ∃ r, RN PN (upd Hl pm (.lst (cutV vs none (some (n : Int)) ++ [.ref pt]))) (.ref pt) r := let ⟨r, z⟩ := rvl; ⟨r, z.same Sm⟩
        have emm : upd Hl pm (.lst (cutV vs none (some (n : Int)) ++ [.ref pt])) pm = some (.lst (cutV vs none (some (n : Int)) ++ [.ref pt])) := upd_same
        generalize upd Hl pm (.lst (cutV vs none (some (n : Int)) ++ [.ref pt])) = Hm at sm km rvm emm
        exact ⟨_, rfl, _, rfl, _, _, rfl, rfl, _, rfl, p, vs, rfl, SqL.of (eJ Hm km), fun pb hb => glue Hm pm _ sm km rvm emm pb hb⟩
    refine ⟨_, rfl, _, rfl, p, vs, _, vs[n], rfl, rfl, SqL.of e3, atI_nat (List.getElem?_eq_getElem nl), rfl, _, rfl, ?_⟩
    refine ite2 (fun _ => ?_) (fun _ => ?_)
    · refine ⟨_, rfl, _, rfl, _, rfl, p, vs, rfl, SqL.of e3, fun pf hf => ?_⟩
      obtain ⟨s4, k4⟩ := front H3 s3 k3 pf hf
      have ef : upd H3 pf (.lst (cutV vs none (some (n : Int)))) pf = some (.lst (cutV vs none (some (n : Int)))) := upd_same
      generalize upd H3 pf (.lst (cutV vs none (some (n : Int)))) = H4 at s4 k4 ef
      refine ⟨_, rfl, _, rfl, p, vs, _, vs[n], rfl, rfl, SqL.of (eJ H4 k4), atI_nat (List.getElem?_eq_getElem nl), rfl, _, rfl, ?_⟩
      refine ite2 (fun _ => ?_) (fun _ => ?_)
      · refine ⟨(by show 1 ≤ sizeLine; omega), fun pl hpl => ?_⟩
        have Sl := same_new (o := .lst [.non]) (Same.refl H4) hpl
        have sl := s4.same Sl
        have kl := k4.same Sl
        have rvl : ∃ r, RN PN (upd H4 pl (.lst [.non])) (.non) r := let ⟨r, z⟩ := (⟨none, rfl⟩ : ∃ r, RN PN H4 .non r); ⟨r, z.same Sl⟩
        have efl := Sl _ _ ef
        have ell : upd H4 pl (.lst [.non]) pl = some (.lst [.non]) := upd_same
        generalize upd H4 pl (.lst [.non]) = Hl at sl kl rvl efl ell
        refine ⟨pf, pl, _, _, rfl, rfl, efl, ell, (by show _ + 1 ≤ _; omega), fun pm hpm => ?_⟩
        have Sm := same_new (o := .lst (cutV vs none (some (n : Int)) ++ [.non])) (Same.refl Hl) hpm
        have sm := sl.same Sm
        have km := kl.same Sm
        have rvm : ∃ r, RN PN (upd Hl pm (.lst (cutV vs none (some (n : Int)) ++ [.non]))) (.non) r := let ⟨r, z⟩ := rvl; ⟨r, z.same Sm⟩
        have emm : upd Hl pm (.lst (cutV vs none (some (n : Int)) ++ [.non])) pm = some (.lst (cutV vs none (some (n : Int)) ++ [.non])) := upd_same
        generalize upd Hl pm (.lst (cutV vs none (some (n : Int)) ++ [.non])) = Hm at sm km rvm emm
        exact ⟨_, rfl, _, rfl, _, _, rfl, rfl, _, rfl, p, vs, rfl, SqL.of (eJ Hm km), fun pb hb => glue Hm pm _ sm km rvm emm pb hb⟩
      · refine ⟨(by show 2 ≤ sizeLine; omega), fun pt hpt => ?_⟩
        have St := same_new (o := .tup [.int 0, .int 1]) (Same.refl H4) hpt
        have st := s4.same St
        have kt := k4.same St
        have rt : ∃ r, RN PN (upd H4 pt (.tup [.int 0, .int 1])) (.ref pt) r := ⟨some (0 : Rat), pt, rfl, upd_same, sz0⟩
        have ef := St _ _ ef
        generalize upd H4 pt (.tup [.int 0, .int 1]) = Ht at st kt rt ef
        refine ⟨(by show 1 ≤ sizeLine; omega), fun pl hpl => ?_⟩
        have Sl := same_new (o := .lst [.ref pt]) (Same.refl Ht) hpl
        have sl := st.same Sl
        have kl := kt.same Sl
        have rvl : ∃ r, RN PN (upd Ht pl (.lst [.ref pt])) (.ref pt) r := let ⟨r, z⟩ := rt; ⟨r, z.same Sl⟩
        have efl := Sl _ _ ef
        have ell : upd Ht pl (.lst [.ref pt]) pl = some (.lst [.ref pt]) := upd_same
        generalize upd Ht pl (.lst [.ref pt]) = Hl at sl kl rvl efl ell
        refine ⟨pf, pl, _, _, rfl, rfl, efl, ell, (by show _ + 1 ≤ _; omega), fun pm hpm => ?_⟩
        have Sm := same_new (o := .lst (cutV vs none (some (n : Int)) ++ [.ref pt])) (Same.refl Hl) hpm
        have sm := sl.same Sm
        have km := kl.same Sm
        have rvm : ∃ r, RN PN (upd Hl pm (.lst (cutV vs none (some (n : Int)) ++ [.ref pt]))) (.ref pt) r := let ⟨r, z⟩ := rvl; ⟨r, z.same Sm⟩
        have emm : upd Hl pm (.lst (cutV vs none (some (n : Int)) ++ [.ref pt])) pm = some (.lst (cutV vs none (some (n : Int)) ++ [.ref pt])) := upd_same
        generalize upd Hl pm (.lst (cutV vs none (some (n : Int)) ++ [.ref pt])) = Hm at sm km rvm emm
        exact ⟨_, rfl, _, rfl, _, _, rfl, rfl, _, rfl, p, vs, rfl, SqL.of (eJ Hm km), fun pb hb => glue Hm pm _ sm km rvm emm pb hb⟩
    refine ⟨_, rfl, _, rfl, _, rfl, p, vs, rfl, SqL.of e3, fun pf hf => ?_⟩
    obtain ⟨s4, k4⟩ := front H3 s3 k3 pf hf
    have ef : upd H3 pf (.lst (cutV vs none (some (n : Int)))) pf = some (.lst (cutV vs none (some (n : Int)))) := upd_same
    generalize upd H3 pf (.lst (cutV vs none (some (n : Int)))) = H4 at s4 k4 ef
    obtain ⟨r, rv⟩ := mJ H4 k4 vs[n] (List.getElem_mem nl)
    refine ⟨_, rfl, _, rfl, p, vs, _, vs[n], rfl, rfl, SqL.of (eJ H4 k4), atI_nat (List.getElem?_eq_getElem nl), (by show 2 ≤ sizeLine; omega), fun pc hpc => ?_⟩
    have Sc := same_new (o := .tup [.int 0, .int 1]) (Same.refl H4) hpc
    have s5 := s4.same Sc
    have k5 := k4.same Sc
    have ec : upd H4 pc (.tup [.int 0, .int 1]) pc = some (.tup [.int 0, .int 1]) := upd_same
    have rv5 := rv.same Sc
    have ef := Sc _ _ ef
    generalize upd H4 pc (.tup [.int 0, .int 1]) = H5 at s5 k5 ec rv5 ef
    refine ⟨entD r, entD (some 0), dp_ent rv5, .tup (SqT.of ec) (.cons (.int _) (.cons (.int _) .nil)), shaped_ent r, shaped_ent _, _, rfl, ?_⟩
    refine ite2 (fun _ => ?_) (fun _ => ?_)
    · refine ⟨(by show 2 ≤ sizeLine; omega), fun pt hpt => ?_⟩
      have St := same_new (o := .tup [.int 1, .int 1]) (Same.refl H5) hpt
      have st := s5.same St
      have kt := k5.same St
      have rt : ∃ r, RN PN (upd H5 pt (.tup [.int 1, .int 1])) (.ref pt) r := ⟨some (1 : Rat), pt, rfl, upd_same, sz1⟩
      have ef := St _ _ ef
      generalize upd H5 pt (.tup [.int 1, .int 1]) = Ht at st kt rt ef
      refine ⟨(by show 1 ≤ sizeLine; omega), fun pl hpl => ?_⟩
      have Sl := same_new (o := .lst [.ref pt]) (Same.refl Ht) hpl
      have sl := st.same Sl
      have kl := kt.same Sl
      have rvl : ∃ r, RN PN (upd Ht pl (.lst [.ref pt])) (.ref pt) r := let ⟨r, z⟩ := rt; ⟨r, z.same Sl⟩
      have efl := Sl _ _ ef
      have ell : upd Ht pl (.lst [.ref pt]) pl = some (.lst [.ref pt]) := upd_same
      generalize upd Ht pl (.lst [.ref pt]) = Hl at sl kl rvl efl ell
      refine ⟨pf, pl, _, _, rfl, rfl, efl, ell, (by show _ + 1 ≤ _; omega), fun pm hpm => ?_⟩
      have Sm := same_new (o := .lst (cutV vs none (some (n : Int)) ++ [.ref pt])) (Same.refl Hl) hpm
      have sm := sl.same Sm
      have km := kl.same Sm
      have rvm : ∃ r, RN PN (upd Hl pm (.lst (cutV vs none (some (n : Int)) ++ [.ref pt]))) (.ref pt) r := let ⟨r, z⟩ := rvl; ⟨r, z.same Sm⟩
      have emm : upd Hl pm (.lst (cutV vs none (some (n : Int)) ++ [.ref pt])) pm = some (.lst (cutV vs none (some (n : Int)) ++ [.ref pt])) := upd_same
      generalize upd Hl pm (.lst (cutV vs none (some (n : Int)) ++ [.ref pt])) = Hm at sm km rvm emm
      exact ⟨_, rfl, _, rfl, _, _, rfl, rfl, _, rfl, p, vs, rfl, SqL.of (eJ Hm km), fun pb hb => glue Hm pm _ sm km rvm emm pb hb⟩
    · refine ⟨(by show 2 ≤ sizeLine; omega), fun pt hpt => ?_⟩
      have St := same_new (o := .tup [.int 0, .int 1]) (Same.refl H5) hpt
      have st := s5.same St
      have kt := k5.same St
      have rt : ∃ r, RN PN (upd H5 pt (.tup [.int 0, .int 1])) (.ref pt) r := ⟨some (0 : Rat), pt, rfl, upd_same, sz0⟩
      have ef := St _ _ ef
      generalize upd H5 pt (.tup [.int 0, .int 1]) = Ht at st kt rt ef
      refine ⟨(by show 1 ≤ sizeLine; omega), fun pl hpl => ?_⟩
      have Sl := same_new (o := .lst [.ref pt]) (Same.refl Ht) hpl
      have sl := st.same Sl
      have kl := kt.same Sl
      have rvl : ∃ r, RN PN (upd Ht pl (.lst [.ref pt])) (.ref pt) r := let ⟨r, z⟩ := rt; ⟨r, z.same Sl⟩
      have efl := Sl _ _ ef
      have ell : upd Ht pl (.lst [.ref pt]) pl = some (.lst [.ref pt]) := upd_same
      generalize upd Ht pl (.lst [.ref pt]) = Hl at sl kl rvl efl ell
      refine ⟨pf, pl, _, _, rfl, rfl, efl, ell, (by show _ + 1 ≤ _; omega), fun pm hpm => ?_⟩
      have Sm := same_new (o := .lst (cutV vs none (some (n : Int)) ++ [.ref pt])) (Same.refl Hl) hpm
      have sm := sl.same Sm
      have km := kl.same Sm
      have rvm : ∃ r, RN PN (upd Hl pm (.lst (cutV vs none (some (n : Int)) ++ [.ref pt]))) (.ref pt) r := let ⟨r, z⟩ := rvl; ⟨r, z.same Sm⟩
      have emm : upd Hl pm (.lst (cutV vs none (some (n : Int)) ++ [.ref pt])) pm = some (.lst (cutV vs none (some (n : Int)) ++ [.ref pt])) := upd_same
      generalize upd Hl pm (.lst (cutV vs none (some (n : Int)) ++ [.ref pt])) = Hm at sm km rvm emm
      exact ⟨_, rfl, _, rfl, _, _, rfl, rfl, _, rfl, p, vs, rfl, SqL.of (eJ Hm km), fun pb hb => glue Hm pm _ sm km rvm emm pb hb⟩
end
end T07

/-! _law_right of k07. -/
namespace T07
open PySem PySem.Spec PyProof.Rows L2 SF SQ SK
def gK2 {α : Type} : List α → List α → List α := fun us ws => us ++ ws
theorem vals_app {vs : List V} {us : List Value} {zs : List V} {ws : List Value} (a : Vals vs us) (b : Vals zs ws) : Vals (gK2 vs zs) (gK2 us ws) := by
  unfold gK2
  induction a with
  | nil => exact b
  | cons r _ ih => exact .cons r ih
theorem kbnF {K : PySem.W.Frag} {x qual : Str} {st : Stmt} {f : Addr} {fd : FuncData} {ps : List Str} (F : Fun K x qual st f fd) (n : Nat) (ks : List Str)
    (h : ∀ (doc pm : Value) (an : Option Addr) (kV cdv ct : Value) (us ws : List Value), us.length = n → ws.length = ks.length → bindArgs (PySem.W.fnOf x qual (defArgs st) (defBody st) (defScope st) .none kV doc pm an cdv ct) ⟨us, ks.zip ws⟩ = pure (ps.zip (gK2 us ws))) : KBn K fd ps n ks gK2 gK2 := by
  obtain ⟨oc, od, kV, doc, pm, an, cdv, ct, osl, rfl, lk, hcd⟩ := F.ex
  exact ⟨fun s us ws _ h1 h2 => .of_eq (h doc pm an kV cdv ct us ws h1 h2), fun a b => vals_app a b⟩
section
variable {P : Program} {w : World} {K : PySem.W.Frag} {mg : Str → Option Value} {base : Heap} {C : Addr}
theorem kSI (T : Tx K mg C) : KBn K T.dSI ["self", "entries"] 1 ["entries"] gK2 gK2 := kbnF T.FSI 1 ["entries"] fun _ _ _ _ _ _ us ws h1 h2 => match us, ws, h1, h2 with | [_], [_], _, _ => rfl
theorem kSR (T : Tx K mg C) : KBn K T.dSR ["cls", "text"] 1 ["text"] gK2 gK2 := kbnF T.FSR 1 ["text"] fun _ _ _ _ _ _ us ws h1 h2 => match us, ws, h1, h2 with | [_], [_], _, _ => rfl
theorem RowAt.but {H H' : Hp} {a p : Addr} {rs : List Ent} (h : RowAt PN H p rs) (n : p ≠ a) (s : SrcAt H a) (k : But a H H') : RowAt PN H' p rs := let ⟨vs, e, hv⟩ := h; ⟨vs, lst_but e n k, hv.imp fun _ _ z => RN.but z s k⟩
theorem EN.but {H H' : Hp} {a : Addr} {v : V} {r : Ent} (h : EN C PN H v r) (s : SrcAt H a) (k : But a H H') : EN C PN H' v r := by
  cases r with
  | none => exact h
  | some q => obtain ⟨p, e, x⟩ := h; exact ⟨p, e, RQ.but x s k⟩
theorem ins_but {H H' : Hp} {a p S dx : Addr} {fs : List (Str × V)} (e : H p = some (.ins S dx fs)) (s : SrcAt H a) (k : But a H H') : H' p = some (.ins S dx fs) := by
  obtain ⟨x, y, z, h⟩ := s
  exact k p _ (fun q => by subst q; rw [h] at e; cases e) e
theorem SerAt.but {H H' : Hp} {a p S : Addr} {rs : List Ent} (h : SerAt C S PN H p rs) (s : SrcAt H a) (k : But a H H') : SerAt C S PN H' p rs := let ⟨dx, t, vs, h1, h2, h3, h4⟩ := h; ⟨dx, t, vs, ins_but h1 s k, tup_but h2 s k, h3.imp fun _ _ z => EN.but z s k, h4⟩
theorem TupG.but {H H' : Hp} {a t : Addr} {rs : List Ent} (h : TupG C PN H t rs) (s : SrcAt H a) (k : But a H H') : TupG C PN H' t rs := let ⟨vs, h2, h3⟩ := h; ⟨vs, tup_but h2 s k, h3.imp fun _ _ z => GN.but z s k⟩
theorem RowAt.szs {H : Hp} {p : Addr} {rs : List Ent} (h : RowAt PN H p rs) : SzE PN rs := let ⟨_, _, hv⟩ := h; RN.szs hv
def bools (b : Bool) : List PyData := [.bool true, .bool false, .bool b, .bool (!b), .bool true, .bool false, .bool false, .bool false, .bool false, .bool false, .bool false, .bool true, .bool true, .bool true, .bool true, .bool true, .bool true]
theorem bools_len (b : Bool) : (PyData.list (bools b)).shown.length ≤ sizeLine := by cases b <;> decide +kernel
abbrev nRt : List Str := ["_law_source_here", "_law_row_here", "_law_line", "_law_held", "_law_some", "_law_made", "_law_mate", "_law_far", "_law_seen", "_law_more", "_law_thing"]
def spRight : Sp := fun vs H Q _ => ∃ a : Addr, vs = [.ref a] ∧ SrcAt H a ∧ ∀ H', SrcAt H' a → But a H H' → Q (.bl true) H'
theorem ok_Right (T : Tx K mg C) : FnG P w K mg base CX0 10 T.aRight T.dRight ["_law_source_here"] spRight := by
  have GRow : FnOk P w K mg base CX0 5 T.aRow T.dRow ["_law_source_here"] spRow := ok_Row T
  have GW : FnOk P w K mg base CX0 2 T.aWri T.dWri ["_law_row_here"] spWri := ok_Wri T
  have GG : FnOk P w K mg base CX0 4 T.aGiv T.dGiv ["_law_source_here", "_law_row_here"] (spGiv C) := ok_Giv T
  have GO : FnOk P w K mg base CX0 5 T.aOth T.dOth ["_law_source_here", "_law_row_here"] spOth := ok_Oth T
  have GS : FnG P w K mg base CX0 9 T.aSho T.dSho ["_law_made", "_law_row_here"] (spSho C T.S) := ok_Sho T
  have GI : FnOk P w K mg base CX0 5 T.aSI T.dSI ["self", "entries"] (spSI C T.S) := ok_SI T
  have GR : FnOk P w K mg base CX0 7 T.aSR T.dSR ["cls", "text"] (spSR C T.S) := ok_SR T
  have GQ : FnOk P w K mg base CX0 5 T.aSEq T.dSEq ["self", "other"] (spSEq C T.S) := ok_SEq T
  have GE : FnOk P w K mg base CX0 1 T.aSEnt T.dSEnt ["self"] (getSp T.S "_entries") := ok_SEnt T
  refine okG T.FRight scRight (fun vs H Q E h => ?_) (fun cdv A outer s0 H vs Q E hgd hr h => ?_)
  · obtain ⟨a, rfl, _⟩ := h
    rfl
  · obtain ⟨a, rfl, hs, q⟩ := h
    have ll := line400
    have hr2 := hr.mono (show 2 ≤ 9 by decide)
    have hr4 := hr.mono (show 4 ≤ 9 by decide)
    have hr5 := hr.mono (show 5 ≤ 9 by decide)
    have hr6 := hr.mono (show 6 ≤ 9 by decide)
    have hr7 := hr.mono (show 7 ≤ 9 by decide)
    refine ⟨_, (pss_cons (ps_set (i := 1) scRight.nd rfl (.inr rfl) (pe_call GRow hr5 (by rfl) T.gRow T.FRow.kp T.bRow .nil pass0 (pa_cons (pv 0) pa_nil)))
      (pss_cons (ps_par (i := 2) (j := 3) (by rfl) scRight.nd rfl rfl (by decide) rfl rfl (pa_cons (pe_call GW hr2 (by rfl) T.gWri T.FWri.kp T.bWri .nil pass0 (pa_cons (pv 1) pa_nil)) (pa_cons (pe_call GG hr4 (by rfl) T.gGiv T.FGiv.kp T.bGiv .nil pass0 (pa_cons (pv 0) (pa_cons (pv 1) pa_nil))) pa_nil)) (by rfl))
      (pss_cons (ps_set (i := 4) scRight.nd rfl (.inr rfl) (pe_lst (pa_cons (pe_make T.MS GI hr6 (by rfl) T.gS T.bSI .nil pass0 (pa_cons (pv 3) pa_nil))
          (pa_cons (pe_makeK0 T.MS GI hr6 (by rfl) T.gS (kSI T) pass0 (pk_cons (pv 3) pk_nil))
          (pa_cons (ClX.pe_cmeth (E := E0) (pe_glob (v := .ref T.S) (by rfl) T.gS rfl) T.rSR T.cSR (GR.raw T.bSR .nil) hr7 pass0 (pa_cons (pv 2) pa_nil))
          (pa_cons (pe_cmethKW (E := E0) (ks := ["text"]) (pe_glob (v := .ref T.S) (by rfl) T.gS rfl) T.rSR T.cSR GR hr7 (kSR T) pass0 (pk_cons (pv 2) pk_nil)) pa_nil))))))
      (pss_cons (ps_if (pt_cmpR (op_neD hr.units) (pe_lc (own := [("_law_made", 5)]) (g := gName 5) (tt := tNot (tB (tCall (spSho C T.S) [] E0 (tCons (tVar 5) (tCons (tVar 1) tNil))))) rfl scRight.nd (pi_list (pv 4)) (blkOk_by (N := nRt) (sc := defScope sRight) (by decide +kernel)) (fun _ _ _ _ _ => pg_name (i := 5) scRight.nd rfl (Or.inl rfl)) (fun _ _ _ _ _ => pts_one (pt_not (pt_val (pe_callG GS hgd hr (by rfl) T.gSho T.FSho.kp T.bSho .nil pass0 (pa_cons (pv 5) (pa_cons (pv 1) pa_nil)))))) (fun _ _ _ _ _ => pv 5)) (pe_lst pa_nil) (nomark _)) (pss_one (ps_ret pe_bl)) pss_nil)
      (pss_cons (ps_set (i := 6) scRight.nd rfl (.inl rfl) (pe_call GO hr5 (by rfl) T.gOth T.FOth.kp T.bOth .nil pass0 (pa_cons (pv 0) (pa_cons (pv 1) pa_nil))))
      (pss_cons (ps_set (i := 7) scRight.nd rfl (.inl rfl) (pe_make T.MS GI hr6 (by rfl) T.gS T.bSI .nil pass0 (pa_cons (pe_call GG hr4 (by rfl) T.gGiv T.FGiv.kp T.bGiv .nil pass0 (pa_cons (pv 0) (pa_cons (pv 6) pa_nil))) pa_nil)))
      (pss_cons (ps_if (pt_not (pt_val (pe_callG GS hgd hr (by rfl) T.gSho T.FSho.kp T.bSho .nil pass0 (pa_cons (pv 7) (pa_cons (pv 6) pa_nil))))) (pss_one (ps_ret pe_bl)) pss_nil)
      (pss_cons (ps_set (i := 8) scRight.nd rfl (.inl rfl) (pe_lst (pa_cons (pe_cmpR (op_ownL (op := .Eq) (E := E0) (fun _ _ => rfl) T.hSEq.h T.hSEq.i GQ T.bSEq hr5 pass0) (pe_ix ix_list (pv 4) pe_int (fun _ _ => rfl)) (pe_ix ix_list (pv 4) pe_int (fun _ _ => rfl)) (nomark _)) (pa_cons (pe_cmpR (op_ownNeL (E := E0) T.sk.ne T.sk.cm T.hSEq.h T.hSEq.i GQ T.bSEq hr6 pass0) (pe_ix ix_list (pv 4) pe_int (fun _ _ => rfl)) (pe_ix ix_list (pv 4) pe_int (fun _ _ => rfl)) (nomark _)) (pa_cons (pe_cmpR (op_ownL (op := .Eq) (E := E0) (fun _ _ => rfl) T.hSEq.h T.hSEq.i GQ T.bSEq hr5 pass0) (pe_ix ix_list (pv 4) pe_int (fun _ _ => rfl)) (pv 7) (nomark _)) (pa_cons (pe_cmpR (op_ownNeL (E := E0) T.sk.ne T.sk.cm T.hSEq.h T.hSEq.i GQ T.bSEq hr6 pass0) (pv 7) (pe_ix ix_list (pv 4) pe_int (fun _ _ => rfl)) (nomark _)) (pa_cons (pe_cmpR (op_ownL (op := .Eq) (E := E0) (fun _ _ => rfl) T.hSEq.h T.hSEq.i GQ T.bSEq hr5 pass0) (pe_ix ix_list (pv 4) pe_int (fun _ _ => rfl)) (pe_make T.MS GI hr6 (by rfl) T.gS T.bSI .nil pass0 (pa_cons (pe_prop (E := E0) (pe_ix ix_list (pv 4) pe_int (fun _ _ => rfl)) T.clS T.PSEnt GE hr2 T.bSEnt .nil pass0 rfl) pa_nil)) (nomark _)) pa_nil)))))))
      (pss_cons (ps_set (i := 9) scRight.nd rfl (.inl rfl) (pe_lst (pa_cons (pv 3) (pa_cons (pv 2) (pa_cons pe_non (pa_cons (pe_callTy call_list_of (by rfl) T.lst (by decide +kernel) (pa_cons (pv 3) pa_nil)) (pa_cons (pe_callB call_len_seq (by rfl) T.len (by decide +kernel) (pa_cons (pv 1) pa_nil)) (pa_cons (pe_tup pa_nil) pa_nil))))))))
      (pss_cons (ps_set (i := 8) scRight.nd rfl (.inl rfl) (pe_op op_cat (pe_op op_cat (pv 8) (pe_lc (own := [("_law_thing", 10)]) (g := gName 10) (tt := tYes) (te := tOp (rOwnL K T.S (spSEq C T.S) E0) (tOp (rIxL K) (tVar 4) (tC (.int 0))) (tVar 10)) rfl scRight.nd (pi_list (pv 9)) (blkOk_by (N := nRt) (sc := defScope sRight) (by decide +kernel)) (fun _ _ _ _ _ => pg_name (i := 10) scRight.nd rfl (Or.inl rfl)) (fun _ _ _ _ _ => pts_nil) (fun _ _ _ _ _ => (pe_cmpR (op_ownL (op := .Eq) (E := E0) (fun _ _ => rfl) T.hSEq.h T.hSEq.i GQ T.bSEq hr5 pass0) (pe_ix (ixL (K := K) rfl) (pv 4) pe_int (fun _ _ => rfl)) (pv 10) (nomark _))))) (pe_lc (own := [("_law_thing", 10)]) (g := gName 10) (tt := tYes) (te := tOp (rOwnNeD T.S (spSEq C T.S) E0) (tVar 10) (tOp (rIxL K) (tVar 4) (tC (.int 0)))) rfl scRight.nd (pi_list (pv 9)) (blkOk_by (N := nRt) (sc := defScope sRight) (by decide +kernel)) (fun _ _ _ _ _ => pg_name (i := 10) scRight.nd rfl (Or.inl rfl)) (fun _ _ _ _ _ => pts_nil) (fun _ _ _ _ _ => (pe_cmpR (op_ownNeD (E := E0) T.sk.ne T.sk.cm T.hSEq.h T.hSEq.i T.sk.ns.up GQ T.bSEq hr6 pass0) (pv 10) (pe_ix (ixL (K := K) rfl) (pv 4) pe_int (fun _ _ => rfl)) (nomark _))))))
      (pss_one (ps_ret (pe_cmpR op_eq (pe_callB (call_reprL hgd hr) (by rfl) T.rc.repr_ (by decide +kernel) (pa_cons (pv 8) pa_nil)) (pe_callB (call_reprL hgd hr) (by rfl) T.rc.repr_ (by decide +kernel) (pa_cons (pe_op op_cat (pe_op op_cat (pe_lst (pa_cons pe_bl (pa_cons pe_bl (pa_cons (pe_cmpR (op_eqD hr.units) (pv 1) (pv 6) (nomark _)) (pa_cons (pe_cmpR (op_neD hr.units) (pv 1) (pv 6) (nomark _)) (pa_cons pe_bl pa_nil)))))) (pe_op op_rep (pe_lst (pa_cons pe_bl pa_nil)) pe_int)) (pe_op op_rep (pe_lst (pa_cons pe_bl pa_nil)) pe_int)) pa_nil)) (nomark _)))))))))))))), ?_⟩
    refine ⟨_, rfl, a, rfl, hs, fun rs p H1 lr row1 npa s1 k1 => ?_⟩
    have szr := RowAt.szs row1
    refine ⟨_, rfl, p, rs, rfl, row1, by omega, fun H2 S2 => ?_⟩
    have s2 := s1.same S2
    have k2 := k1.same S2
    have row2 := row1.same S2
    refine ⟨_, rfl, _, rfl, a, p, rs, rfl, s2, row2, npa, by omega, fun th H3 g3 s3 k3' => ⟨_, _, rfl, ?_⟩⟩
    have k3 := k2.trans k3'
    have row3 := RowAt.but row2 npa s2 k3'
    refine ⟨_, rfl, fun x1 dx1 hx hd hn => mk_ser hx hd hn g3 (by omega) fun H4 S4 z1 => ⟨rfl, ?_⟩⟩
    refine ⟨_, rfl, rfl, rfl, fun x2 dx2 hx hd hn => mk_ser hx hd hn (g3.same S4) (by omega) fun H5 S5 z2 => ⟨rfl, ?_⟩⟩
    refine ⟨rfl, _, rfl, rs, rfl, szr, by omega, fun x3 H6 S6 z3 => ?_⟩
    refine ⟨rfl, _, rfl, rfl, rs, rfl, szr, by omega, fun x4 H7 S7 z4 => ⟨(by show 4 ≤ sizeLine; omega), fun ls hls => ?_⟩⟩
    generalize hE : upd H7 ls _ = H8
    have els : H8 ls = some (.lst [.ref x1, .ref x2, .ref x3, .ref x4]) := upd_got hE
    have S8 := upd_stay hE hls
    have S38 := (((S4.trans S5).trans S6).trans S7).trans S8
    have s8 := s3.same S38
    have k8 := k3.same S38
    have row8 := row3.same S38
    have g8 := g3.same S38
    have z1 := z1.same (((S5.trans S6).trans S7).trans S8)
    have z2 := z2.same ((S6.trans S7).trans S8)
    have z3 := z3.same (S7.trans S8)
    have z4 := z4.same S8
    clear hE hls
    refine ⟨_, rfl, ls, rfl, ⟨_, SqL.of els⟩, fun D hD => lc_list (xs := [.ref x1, .ref x2, .ref x3, .ref x4]) (fun i J => Same H8 J ∧ J D = some (.lst [])) ⟨same_new (Same.refl _) hD, upd_same⟩ (fun i J _ hh => SqL.of (hh.1 _ _ els)) ?_ ?_⟩
    · rintro i x J hx ⟨SJ, eD⟩
      have hz : ∃ m, x = .ref m ∧ SerAt C T.S PN J m rs := by
        have hm := List.mem_of_getElem? hx
        simp only [List.mem_cons, List.not_mem_nil, or_false] at hm
        rcases hm with rfl | rfl | rfl | rfl
        · exact ⟨_, rfl, z1.same SJ⟩
        · exact ⟨_, rfl, z2.same SJ⟩
        · exact ⟨_, rfl, z3.same SJ⟩
        · exact ⟨_, rfl, z4.same SJ⟩
      obtain ⟨m, rfl, zm⟩ := hz
      refine ⟨rfl, _, rfl, _, rfl, m, p, rs, rfl, zm, row8.same SJ, by omega, fun J2 S2' => ⟨_, rfl, ?_⟩⟩
      exact iteF ⟨SJ.trans S2', S2' _ _ eD⟩
    rintro J ⟨SJ, eD⟩
    refine ⟨(by show 0 ≤ sizeLine; omega), fun pn hpn => ?_⟩
    generalize hE : upd J pn _ = H9
    have en : H9 pn = some (.lst []) := upd_got hE
    have S9' := upd_stay hE hpn
    have S9 := SJ.trans S9'
    clear hE hpn
    refine ⟨.list [], .list [], .lst (SqL.of (S9' _ _ eD)) .nil, .lst (SqL.of en) .nil, rfl, rfl, _, rfl, ?_⟩
    refine iteF ?_
    have s9 := s8.same S9
    have k9 := k8.same S9
    have row9 := row8.same S9
    refine ⟨_, rfl, _, rfl, a, p, rs, rfl, s9, row9, npa, by omega, fun rt pt HA lt rowA npt sA kA' => ?_⟩
    have kA := k9.trans kA'
    have nls : ls ≠ a := fun q => by
      subst q
      obtain ⟨x, y, z, e⟩ := s8
      rw [e] at els
      cases els
    have elsA := lst_but (S9 _ _ els) nls kA'
    have z1 := SerAt.but (z1.same S9) s9 kA'
    have z2 := SerAt.but (z2.same S9) s9 kA'
    have z3 := SerAt.but (z3.same S9) s9 kA'
    have z4 := SerAt.but (z4.same S9) s9 kA'
    have rowpA := RowAt.but row9 npa s9 kA'
    have gA' := TupG.but (g8.same S9) s9 kA'
    refine ⟨_, rfl, _, rfl, a, pt, rt, rfl, sA, rowA, npt, by omega, fun tf HB gf sB kB' => ?_⟩
    have kB := kA.trans kB'
    refine fun xf dxf hx hd hn => mk_ser hx hd hn gf (by omega) fun HC SC zf => ⟨rfl, ?_⟩
    have sC := sB.same SC
    have kC := kB.same SC
    have elsC := SC _ _ (lst_but elsA nls kB')
    have z1 := (SerAt.but z1 sA kB').same SC
    have z2 := (SerAt.but z2 sA kB').same SC
    have z3 := (SerAt.but z3 sA kB').same SC
    have z4 := (SerAt.but z4 sA kB').same SC
    have rowp := (RowAt.but rowpA npa sA kB').same SC
    have rowt := (RowAt.but rowA npt sA kB').same SC
    have gh := (TupG.but gA' sA kB').same SC
    refine ⟨_, rfl, _, rfl, xf, pt, rt, rfl, zf, rowt, by omega, fun HD SD => ⟨_, rfl, iteF ?_⟩⟩
    have sD := sC.same SD
    have kD := kC.same SD
    have els := SD _ _ elsC
    have z1 := z1.same SD
    have z2 := z2.same SD
    have z3 := z3.same SD
    have z4 := z4.same SD
    have zf := zf.same SD
    have rowp := rowp.same SD
    have rowt := rowt.same SD
    have gh := gh.same SD
    have fin : ∀ J, Same HD J → Q (.bl true) J := fun J S => q J (sD.same S) (kD.same S)
    clear q
    have lk : ∀ (J : Hp) (i : Nat) (v : V), Same HD J → [V.ref x1, .ref x2, .ref x3, .ref x4][i]? = some v → SqL K J ls [V.ref x1, .ref x2, .ref x3, .ref x4] ∧ atI [V.ref x1, .ref x2, .ref x3, .ref x4] (i : Int) = some v := fun J i v S e => ⟨SqL.of (S _ _ els), atI_nat e⟩
    have ty : ∀ (J : Hp) (m : Addr) (rr : List Ent), SerAt C T.S PN J m rr → ∃ dx fs, J m = some (.ins T.S dx fs) ∧ TyX K J (.ref m) (.ref T.S) := fun J m rr z => by
      obtain ⟨dx, fs, e⟩ := ser_ins z
      exact ⟨dx, fs, e, .base (.ins e T.clS T.sk.ca T.sk.cn T.sk.ct T.sk.cm)⟩
    -- some[0] == some[2]
    have Sa := Same.refl HD
    obtain ⟨da, fa, ea, ta⟩ := ty HD x1 rs z1
    obtain ⟨_, _, _, tb⟩ := ty HD x3 rs z3
    refine ⟨_, rfl, ls, _, 0, _, rfl, rfl, SqL.of els, at_of (j := 0) rfl rfl, _, rfl, ls, _, 2, _, rfl, rfl, SqL.of els, at_of (j := 2) rfl rfl, x1, da, fa, _, rfl, ea, tb, nfC, x1, _, rs, rfl, z1, .inl ⟨x3, rs, rfl, z3, fun HE SE => ?_⟩⟩
    -- some[2] != some[1]
    have z3E := z3.same SE
    have z2E := z2.same SE
    obtain ⟨db, fb, eb, _⟩ := ty HE x3 rs z3E
    obtain ⟨_, _, _, tc⟩ := ty HE x2 rs z2E
    refine ⟨_, rfl, ls, _, 2, _, rfl, rfl, SqL.of (SE _ _ els), at_of (j := 2) rfl rfl, _, rfl, ls, _, 1, _, rfl, rfl, SqL.of (SE _ _ els), at_of (j := 1) rfl rfl, x3, db, fb, _, rfl, eb, tc, nfC, x3, _, rs, rfl, z3E, .inl ⟨x2, rs, rfl, z2E, fun HF SF => ⟨_, rfl, ?_⟩⟩⟩
    have SDF := SE.trans SF
    -- some[0] == far
    have z1F := z1.same SDF
    have zfF := zf.same SDF
    obtain ⟨dc, fc, ec, _⟩ := ty HF x1 rs z1F
    obtain ⟨dd, fd, ed, td⟩ := ty HF xf rt zfF
    refine ⟨_, rfl, ls, _, 0, _, rfl, rfl, SqL.of (SDF _ _ els), at_of (j := 0) rfl rfl, _, rfl, x1, dc, fc, _, rfl, ec, td, nfC, x1, _, rs, rfl, z1F, .inl ⟨xf, rt, rfl, zfF, fun HG SG => ?_⟩⟩
    have SDG := SDF.trans SG
    -- far != some[2]
    have zfG := zf.same SDG
    have z3G := z3.same SDG
    obtain ⟨de, fe, ee, _⟩ := ty HG xf rt zfG
    obtain ⟨_, _, _, te⟩ := ty HG x3 rs z3G
    refine ⟨_, rfl, _, rfl, ls, _, 2, _, rfl, rfl, SqL.of (SDG _ _ els), at_of (j := 2) rfl rfl, xf, de, fe, _, rfl, ee, te, nfC, xf, _, rt, rfl, zfG, .inl ⟨x3, rs, rfl, z3G, fun HI SI => ⟨_, rfl, ?_⟩⟩⟩
    have SDI := SDG.trans SI
    -- some[3] == Series(some[0].entries)
    obtain ⟨dxe, te1, ee1, tue, _⟩ := (z1.same SDI).tup
    refine ⟨_, rfl, ls, _, 3, _, rfl, rfl, SqL.of (SDI _ _ els), at_of (j := 3) rfl rfl, _, rfl, ls, _, 0, _, rfl, rfl, SqL.of (SDI _ _ els), at_of (j := 0) rfl rfl, x1, dxe, _, rfl, ee1, x1, dxe, _, _, rfl, ee1, ent_look te1, ?_⟩
    refine fun xn dxn hx hd hn => mk_ser hx hd hn tue.g (by omega) fun HJ SJ zn => ⟨rfl, ?_⟩
    have SDJ := SDI.trans SJ
    have z4J := z4.same SDJ
    obtain ⟨dg, fg, eg, _⟩ := ty HJ x4 rs z4J
    obtain ⟨_, _, _, tn⟩ := ty HJ xn rs zn
    refine ⟨x4, dg, fg, _, rfl, eg, tn, nfC, x4, _, rs, rfl, z4J, .inl ⟨xn, rs, rfl, zn, fun HK SK' => ⟨(by show 5 ≤ sizeLine; omega), fun l8 hl8 => ?_⟩⟩⟩
    have SDK := SDJ.trans SK'
    have e1 : decide (rs = rs) = true := decide_eq_true rfl
    have e2 : decide (rt = rs) = decide (rs = rt) := by
      by_cases h : rs = rt
      · subst h; rfl
      · rw [decide_eq_false h, decide_eq_false (fun z => h z.symm)]
    rw [e1, e2]
    obtain ⟨bb, hbb⟩ : ∃ b, decide (rs = rt) = b := ⟨_, rfl⟩
    rw [hbb]
    generalize hE : upd HK l8 _ = HL
    have e8 : HL l8 = some (.lst [.bl true, .bl false, .bl bb, .bl (!bb), .bl true]) := upd_got hE
    have SL := upd_stay hE hl8
    clear hE hl8
    have SDL := SDK.trans SL
    -- more
    obtain ⟨vh, eth, hvh⟩ := gh
    obtain ⟨vp, ep, hvp⟩ := rowp
    refine ⟨_, rfl, _, rfl, _, rfl, th, _, rfl, .inr (SqT.of (SDL _ _ eth)), fun lh hlh => ?_⟩
    generalize hE : upd HL lh _ = HM
    have elh : HM lh = some (.lst vh) := upd_got hE
    have SM := upd_stay hE hlh
    clear hE hlh
    have SDM := SDL.trans SM
    refine ⟨_, rfl, p, _, rfl, .inl (SqL.of (SDM _ _ ep)), (by show 0 ≤ sizeLine; omega), fun t0 ht0 => ?_⟩
    generalize hE : upd HM t0 _ = HN
    have et0 : HN t0 = some (.tup []) := upd_got hE
    have SN := upd_stay hE ht0
    clear hE ht0
    have SDN := SDM.trans SN
    refine ⟨(by show 6 ≤ sizeLine; omega), fun l9 hl9 => ?_⟩
    generalize hE : upd HN l9 _ = HO'
    have e9 : HO' l9 = some (.lst [.ref th, .str (line rs), .non, .ref lh, .int ((vp.length : Nat) : Int), .ref t0]) := upd_got hE
    have SO := upd_stay hE hl9
    clear hE hl9
    have SDO := SDN.trans SO
    have dec : ∀ J, Same HO' J → ∀ x ∈ [V.ref th, .str (line rs), .non, .ref lh, .int ((vp.length : Nat) : Int), .ref t0], ∃ Ty, DecN J x Ty := by
      intro J S x hx
      simp only [List.mem_cons, List.not_mem_nil, or_false] at hx
      rcases hx with rfl | rfl | rfl | rfl | rfl | rfl
      · exact ⟨_, .tup (S _ _ (SDO _ _ eth))⟩
      · exact ⟨_, .str _⟩
      · exact ⟨_, .non⟩
      · exact ⟨_, .lst (S _ _ (SO _ _ (SN _ _ elh)))⟩
      · exact ⟨_, .int _⟩
      · exact ⟨_, .tup (S _ _ (SO _ _ et0))⟩
    generalize hmo : [V.ref th, .str (line rs), .non, .ref lh, .int ((vp.length : Nat) : Int), .ref t0] = mo at e9 dec
    have lmo : mo.length = 6 := by rw [← hmo]; rfl
    -- seen + .. + ..
    refine ⟨_, rfl, _, rfl, l9, rfl, ⟨_, SqL.of e9⟩, fun D1 hD1 => lcS_list (P := fun _ y _ => y = V.bl false) (fun _ _ _ _ _ h => h) (fun _ _ _ _ _ _ _ h => h) (SqL.of e9) (by omega) hD1 ?_ ?_⟩
    · intro i x J Q1 hx SJ z
      obtain ⟨Ty, dn⟩ := dec J SJ x (List.mem_of_getElem? hx)
      have SDJ' := SDO.trans SJ
      obtain ⟨dz, fz, ez, _⟩ := ty J x1 rs (z1.same SDJ')
      exact ⟨_, rfl, ls, _, 0, _, rfl, rfl, SqL.of (SDJ' _ _ els), at_of (j := 0) rfl rfl, _, rfl, x1, dz, fz, _, rfl, ez, dn.dec.typ, T.sk.ns.nf dn.dec.mem, x1, _, rs, rfl, z1.same SDJ', .inr ⟨_, dn.dec, z _ _ (Same.refl _) rfl⟩⟩
    intro HP ys SP hys hyl hP
    have eys : ys = List.replicate 6 (V.bl false) := List.eq_replicate_iff.mpr ⟨by rw [hyl, lmo], fun y hy => by
      obtain ⟨i, hi, ei⟩ := List.getElem_of_mem hy
      rw [← ei]
      exact hP i _ (List.getElem?_eq_getElem hi)⟩
    rw [eys] at hys
    have e8P := SP _ _ (SO _ _ (SN _ _ (SM _ _ e8)))
    refine ⟨l8, D1, _, _, rfl, rfl, e8P, hys, (by show 5 + 6 ≤ sizeLine; omega), fun l10 hl10 => ?_⟩
    generalize hE : upd HP l10 _ = HR
    have e10 : HR l10 = some (.lst ([.bl true, .bl false, .bl bb, .bl (!bb), .bl true] ++ List.replicate 6 (V.bl false))) := upd_got hE
    have SR := upd_stay hE hl10
    clear hE hl10
    have SOR := SP.trans SR
    have e9R := SOR _ _ e9
    refine ⟨_, rfl, l9, rfl, ⟨_, SqL.of e9R⟩, fun D2 hD2 => lcS_list (P := fun _ y _ => y = V.bl true) (fun _ _ _ _ _ h => h) (fun _ _ _ _ _ _ _ h => h) (SqL.of e9R) (by omega) hD2 ?_ ?_⟩
    · intro i x J Q1 hx SJ z
      obtain ⟨Ty, dn⟩ := dec J (SOR.trans SJ) x (List.mem_of_getElem? hx)
      have SDJ' := (SDO.trans SOR).trans SJ
      obtain ⟨dz, fz, ez, _⟩ := ty J x1 rs (z1.same SDJ')
      exact ⟨_, rfl, _, rfl, ls, _, 0, _, rfl, rfl, SqL.of (SDJ' _ _ els), at_of (j := 0) rfl rfl, Ty, x1, dz, fz, rfl, ez, dn, x1, _, rs, rfl, z1.same SDJ', .inr ⟨_, dn.dec, false, rfl, z _ _ (Same.refl _) rfl⟩⟩
    intro HS ys2 SS hys2 hyl2 hP2
    have eys2 : ys2 = List.replicate 6 (V.bl true) := List.eq_replicate_iff.mpr ⟨by rw [hyl2, lmo], fun y hy => by
      obtain ⟨i, hi, ei⟩ := List.getElem_of_mem hy
      rw [← ei]
      exact hP2 i _ (List.getElem?_eq_getElem hi)⟩
    rw [eys2] at hys2
    refine ⟨l10, D2, _, _, rfl, rfl, SS _ _ e10, hys2, (by show 11 + 6 ≤ sizeLine; omega), fun l11 hl11 => ?_⟩
    generalize hE : upd HS l11 _ = HT'
    have e11 : HT' l11 = some (.lst ([.bl true, .bl false, .bl bb, .bl (!bb), .bl true] ++ List.replicate 6 (V.bl false) ++ List.replicate 6 (V.bl true))) := upd_got hE
    have ST := upd_stay hE hl11
    clear hE hl11
    have SDT := ((SDO.trans SOR).trans SS).trans ST
    have fl : ∀ b : Bool, flatDs ([V.bl true, .bl false, .bl b, .bl (!b), .bl true] ++ List.replicate 6 (V.bl false) ++ List.replicate 6 (V.bl true)) = some (bools b) := fun b => rfl
    refine ⟨_, rfl, l11, _, bools bb, rfl, e11, fl bb, bools_len bb, ?_⟩
    have rp : RowAt PN HT' p rs := ⟨vp, SDT _ _ ep, hvp.imp fun _ _ z => RN.same z SDT⟩
    have rtt : RowAt PN HT' pt rt := RowAt.same rowt SDT
    refine ⟨_, rfl, _, rfl, rowD rs, rowD rt, dp_row rp, dp_row rtt, shaped_row rs, shaped_row rt, _, rfl, _, rfl, rowD rs, rowD rt, dp_row rp, dp_row rtt, shaped_row rs, shaped_row rt, ?_⟩
    rw [row_eqv, hbb]
    refine ⟨(by show 5 ≤ sizeLine; omega), fun la hla => ?_⟩
    generalize hE : upd HT' la _ = U1
    have ela : U1 la = some (.lst [.bl true, .bl false, .bl bb, .bl (!bb), .bl true]) := upd_got hE
    have SU1 := upd_stay hE hla
    clear hE hla
    refine ⟨(by show 1 ≤ sizeLine; omega), fun lb hlb => ?_⟩
    generalize hE : upd U1 lb _ = U2
    have elb : U2 lb = some (.lst [.bl false]) := upd_got hE
    have SU2 := upd_stay hE hlb
    clear hE hlb
    refine ⟨lb, 6, _, rfl, rfl, elb, by decide, by decide, (by show 1 * 6 ≤ sizeLine; omega), fun lc hlc => ?_⟩
    generalize hE : upd U2 lc _ = U3
    have elc : U3 lc = some (.lst (List.replicate 6 (V.bl false))) := upd_got hE
    have SU3 := upd_stay hE hlc
    clear hE hlc
    refine ⟨la, lc, _, _, rfl, rfl, SU3 _ _ (SU2 _ _ ela), elc, (by show 5 + 6 ≤ sizeLine; omega), fun ld hld => ?_⟩
    generalize hE : upd U3 ld _ = U4
    have eld : U4 ld = some (.lst ([.bl true, .bl false, .bl bb, .bl (!bb), .bl true] ++ List.replicate 6 (V.bl false))) := upd_got hE
    have SU4 := upd_stay hE hld
    clear hE hld
    refine ⟨(by show 1 ≤ sizeLine; omega), fun le hle => ?_⟩
    generalize hE : upd U4 le _ = U5
    have ele : U5 le = some (.lst [.bl true]) := upd_got hE
    have SU5 := upd_stay hE hle
    clear hE hle
    refine ⟨le, 6, _, rfl, rfl, ele, by decide, by decide, (by show 1 * 6 ≤ sizeLine; omega), fun lf hlf => ?_⟩
    generalize hE : upd U5 lf _ = U6
    have elf : U6 lf = some (.lst (List.replicate 6 (V.bl true))) := upd_got hE
    have SU6 := upd_stay hE hlf
    clear hE hlf
    refine ⟨ld, lf, _, _, rfl, rfl, SU6 _ _ (SU5 _ _ eld), elf, (by show 11 + 6 ≤ sizeLine; omega), fun lg hlg => ?_⟩
    generalize hE : upd U6 lg _ = U7
    have elg : U7 lg = some (.lst ([.bl true, .bl false, .bl bb, .bl (!bb), .bl true] ++ List.replicate 6 (V.bl false) ++ List.replicate 6 (V.bl true))) := upd_got hE
    have SU7 := upd_stay hE hlg
    clear hE hlg
    refine ⟨lg, _, bools bb, rfl, elg, fl bb, bools_len bb, rfl, ?_⟩
    rw [decide_eq_true rfl]
    exact fin U7 (((((((SDT.trans SU1).trans SU2).trans SU3).trans SU4).trans SU5).trans SU6).trans SU7)
end
end T07

/-! law of k07. -/
namespace T07
open PySem PySem.Spec PyProof.Rows L2 SF SQ SK
def spLaw (K : PySem.W.Frag) : Sp := fun vs H Q _ => ∃ (a : Addr) (ns : List Int), vs = [.ref a] ∧ SqL K H a (ns.map V.int) ∧ ns.length ≤ 63 ∧ ∀ H', Q (.bl true) H'
def q73 : Rat := ⟨-7, 3, by decide, by decide⟩
def rsC : List Ent := [some 0, none, some q73]
theorem line_c : line rsC = ("0 _ -7/3" : Str) := by decide +kernel
theorem line_g : line [none] = ("_" : Str) := by decide +kernel
theorem sz_c : SzE PN rsC := by
  intro q hq
  simp only [rsC, List.mem_cons, List.not_mem_nil, or_false] at hq
  rcases hq with h | h | h
  · cases h; exact Sz.int (i := 0) (by decide) (by decide)
  · cases h
  · cases h; exact ⟨by decide, by decide⟩
theorem sz_g : SzE PN [none] := by
  intro q hq
  simp at hq
theorem sz_n : SzE PN [] := by
  intro q hq
  cases hq
section
variable {P : Program} {w : World} {K : PySem.W.Frag} {mg : Str → Option Value} {base : Heap} {C : Addr}
theorem row_nil {H : Hp} {p : Addr} (e : H p = some (.lst [])) : RowAt PN H p [] := ⟨[], e, All2.nil⟩
theorem ok_law (T : Tx K mg C) : FnG P w K mg base CX0 11 T.aLaw T.dLaw ["_law_cells"] (spLaw K) := by
  have GC : FnOk P w K mg base CX0 1 T.aCell T.dCell ["_law_cells", "_law_k"] (spCell K) := ok_cell T.FCell T.blt
  have GSo : FnOk P w K mg base CX0 1 T.aSrc T.dSrc ["_law_cell_here"] spSource := ok_source T.FSrc T.blt
  have GR : FnG P w K mg base CX0 10 T.aRight T.dRight ["_law_source_here"] spRight := ok_Right T
  have GS : FnG P w K mg base CX0 9 T.aSho T.dSho ["_law_made", "_law_row_here"] (spSho C T.S) := ok_Sho T
  have GI : FnOk P w K mg base CX0 5 T.aSI T.dSI ["self", "entries"] (spSI C T.S) := ok_SI T
  have GRd : FnOk P w K mg base CX0 7 T.aSR T.dSR ["cls", "text"] (spSR C T.S) := ok_SR T
  refine okG T.FLaw scLaw (fun vs H Q E h => ?_) (fun cdv A outer s0 H vs Q E hgd hr h => ?_)
  · obtain ⟨a, ns, rfl, _⟩ := h
    rfl
  · obtain ⟨a, ns, rfl, hS, hlen, q⟩ := h
    have ll := line400
    have hr1 := hr.mono (show 1 ≤ 10 by decide)
    have hr6 := hr.mono (show 6 ≤ 10 by decide)
    have hr7 := hr.mono (show 7 ≤ 10 by decide)
    have hr9 := hr.mono (show 9 ≤ 10 by decide)
    refine ⟨_, (pss_cons (ps_if (PW.pt (pw_or (pt_not (pt_val (pe_callG GS hgd hr9 (by rfl) T.gSho T.FSho.kp T.bSho .nil pass0 (pa_cons (pe_make T.MS GI hr6 (by rfl) T.gS T.bSI .nil pass0 (pa_cons (pe_tup pa_nil) pa_nil)) (pa_cons (pe_lst pa_nil) pa_nil)))))
          (pw_or1 (pt_not (pt_val (pe_callG GS hgd hr9 (by rfl) T.gSho T.FSho.kp T.bSho .nil pass0 (pa_cons (ClX.pe_cmeth (E := E0) (pe_glob (v := .ref T.S) (by rfl) T.gS rfl) T.rSR T.cSR (GRd.raw T.bSR .nil) hr7 pass0 (pa_cons pe_str pa_nil)) (pa_cons (pe_lst pa_nil) pa_nil)))))))) (pss_one (ps_ret pe_bl)) pss_nil)
      (pss_cons (ps_if (pt_not (pt_val (pe_callG GS hgd hr9 (by rfl) T.gSho T.FSho.kp T.bSho .nil pass0 (pa_cons (ClX.pe_cmeth (E := E0) (pe_glob (v := .ref T.S) (by rfl) T.gS rfl) T.rSR T.cSR (GRd.raw T.bSR .nil) hr7 pass0 (pa_cons pe_str pa_nil)) (pa_cons (pe_lst (pa_cons pe_non pa_nil)) pa_nil))))) (pss_one (ps_ret pe_bl)) pss_nil)
      (pss_cons (ps_if (pt_not (pt_val (pe_callG GS hgd hr9 (by rfl) T.gSho T.FSho.kp T.bSho .nil pass0 (pa_cons (ClX.pe_cmeth (E := E0) (pe_glob (v := .ref T.S) (by rfl) T.gS rfl) T.rSR T.cSR (GRd.raw T.bSR .nil) hr7 pass0 (pa_cons pe_str pa_nil)) (pa_cons (pe_lst (pa_cons (pe_tup (pa_cons pe_int (pa_cons pe_int pa_nil))) (pa_cons pe_non (pa_cons (pe_tup (pa_cons (pe_un un_neg pe_int) (pa_cons pe_int pa_nil))) pa_nil)))) pa_nil))))) (pss_one (ps_ret pe_bl)) pss_nil)
      (pss_cons (ps_for PassesOwn.never rfl (pi_range1 rfl T.rc.range_ (pa_cons (pe_callB (call_max2 rfl) (by rfl) T.max_ (by decide +kernel) (pa_cons pe_int (pa_cons (pe_callB (call_min2 rfl) (by rfl) T.min_ (by decide +kernel) (pa_cons (pe_callB call_len_seq (by rfl) T.len (by decide +kernel) (pa_cons (pv 0) pa_nil)) (pa_cons pe_int pa_nil))) pa_nil))) pa_nil)) (pg_name (i := 1) scLaw.nd rfl (.inl rfl)) (pss_cons (ps_set (i := 2) scLaw.nd rfl (.inr rfl) (pe_call GSo hr1 (by rfl) T.gSrc T.FSrc.kp T.bSrc .nil pass0 (pa_cons (pe_call GC hr1 (by rfl) T.gCell T.FCell.kp T.bCell .nil pass0 (pa_cons (pv 0) (pa_cons (pv 1) pa_nil))) pa_nil)))
        (pss_one (ps_if (pt_not (pt_val (pe_callB (cr_all rfl) (by rfl) T.all_ (by decide +kernel) (pa_cons (pe_lc (own := [("_law_turn", 3)]) (g := gName 3) (tt := tYes) rfl scLaw.nd (pi_range1 rfl T.rc.range_ (pa_cons pe_int pa_nil)) (blkOk_by (N := ["_law_cells", "_law_k", "_law_source_here", "_law_turn"]) (sc := defScope sLaw) (by decide +kernel)) (fun _ _ _ _ _ => pg_name (i := 3) scLaw.nd rfl (Or.inl rfl)) (fun _ _ _ _ _ => pts_nil) (fun _ _ _ _ _ => pe_callG GR hgd hr (by rfl) T.gRight T.FRight.kp T.bRight .nil pass0 (pa_cons (pv 2) pa_nil))) pa_nil)))) (pss_one (ps_ret pe_bl)) pss_nil))))
      (pss_one (ps_ret pe_bl)))))), ?_⟩
    -- Series(()), Series.read('')
    refine ⟨(by show 0 ≤ sizeLine; omega), fun t1 ht1 => ?_⟩
    generalize hE : upd H t1 _ = H1
    have et1 := upd_got hE
    have S1 := upd_stay hE ht1
    refine fun x1 dx1 hx hd hn => mk_ser hx hd hn ⟨[], et1, All2.nil⟩ (by show 0 ≤ 400; omega) fun H2 S2 z1 => ⟨rfl, ?_⟩
    refine ⟨(by show 0 ≤ sizeLine; omega), fun p1 hp1 => ?_⟩
    generalize hE : upd H2 p1 _ = H3
    have ep1 : H3 p1 = some (.lst []) := upd_got hE
    have S3 := upd_stay hE hp1
    refine ⟨x1, p1, [], rfl, z1.same S3, row_nil ep1, by show 0 ≤ 300; omega, fun H4 S4 => ⟨_, rfl, iteF ?_⟩⟩
    refine ⟨rfl, [], rfl, sz_n, by show 0 ≤ 400; omega, fun x2 H5 S5 z2 => ?_⟩
    refine ⟨(by show 0 ≤ sizeLine; omega), fun p2 hp2 => ?_⟩
    generalize hE : upd H5 p2 _ = H6
    have ep2 : H6 p2 = some (.lst []) := upd_got hE
    have S6 := upd_stay hE hp2
    refine ⟨x2, p2, [], rfl, z2.same S6, row_nil ep2, by show 0 ≤ 300; omega, fun H7 S7 => ⟨_, rfl, iteF ?_⟩⟩
    have S07 := (((((S1.trans S2).trans S3).trans S4).trans S5).trans S6).trans S7
    -- Series.read('_')
    refine ⟨rfl, [none], rfl, sz_g, by show 1 ≤ 400; omega, fun x3 H8 S8 z3 => ?_⟩
    refine ⟨(by show 1 ≤ sizeLine; omega), fun p3 hp3 => ?_⟩
    generalize hE : upd H8 p3 _ = H9
    have ep3 : H9 p3 = some (.lst [.non]) := upd_got hE
    have S9 := upd_stay hE hp3
    refine ⟨x3, p3, [none], rfl, z3.same S9, ⟨[.non], ep3, All2.snoc (vs := []) (rs := []) All2.nil rfl⟩, by show 1 ≤ 300; omega, fun HA SA => ⟨_, rfl, iteF ?_⟩⟩
    have S0A := ((S07.trans S8).trans S9).trans SA
    -- Series.read('0 _ -7/3')
    refine ⟨rfl, rsC, by rw [line_c]; rfl, sz_c, by show 3 ≤ 400; omega, fun x4 HB SB z4 => ?_⟩
    refine ⟨(by show 2 ≤ sizeLine; omega), fun pa hpa => ?_⟩
    generalize hE : upd HB pa _ = HC
    have epa : HC pa = some (.tup [.int 0, .int 1]) := upd_got hE
    have SC := upd_stay hE hpa
    refine ⟨_, rfl, (by show 2 ≤ sizeLine; omega), fun pb hpb => ?_⟩
    generalize hE : upd HC pb _ = HD
    have epb : HD pb = some (.tup [.int (-7), .int 3]) := upd_got hE
    have SD := upd_stay hE hpb
    refine ⟨(by show 3 ≤ sizeLine; omega), fun p4 hp4 => ?_⟩
    generalize hE : upd HD p4 _ = HE
    have ep4 : HE p4 = some (.lst [.ref pa, .non, .ref pb]) := upd_got hE
    have SE := upd_stay hE hp4
    have row : RowAt PN HE p4 rsC := by
      refine ⟨_, ep4, All2.snoc (vs := [_, _]) (rs := [some 0, none]) (All2.snoc (vs := [_]) (rs := [some 0]) (All2.snoc (vs := []) (rs := []) All2.nil ?_) rfl) ?_⟩
      · exact ⟨pa, rfl, SE _ _ (SD _ _ epa), sz_c 0 (by simp [rsC])⟩
      · exact ⟨pb, rfl, SE _ _ epb, sz_c q73 (by simp [rsC])⟩
    refine ⟨x4, p4, rsC, rfl, ((z4.same SC).same SD).same SE, row, by show 3 ≤ 300; omega, fun HF SF => ⟨_, rfl, iteF ?_⟩⟩
    have S0F := ((((S0A.trans SB).trans SC).trans SD).trans SE).trans SF
    obtain ⟨Nn, hN, n0, n8⟩ : ∃ N : Int, (if (if (6 : Int) < ((ns.map V.int).length : Int) then (6 : Int) else ((ns.map V.int).length : Int)) > 2 then (if (6 : Int) < ((ns.map V.int).length : Int) then (6 : Int) else ((ns.map V.int).length : Int)) else 2) = N ∧ 0 ≤ N ∧ N ≤ 6 := by
      refine ⟨_, rfl, ?_, ?_⟩
      · split <;> split <;> omega
      · split <;> split <;> omega
    refine ⟨_, rfl, a, _, rfl, .inl (hS.ext S0F), _, _, rfl, 2, _, rfl, Nn, by rw [← hN], by omega, by omega, for_range (lo := 0) (n := Nn.toNat) (fun i σ H' => Same H H' ∧ ∃ w4 w5 w6, σ = [some (.ref a), w4, w5, w6]) ⟨S0F, none, none, none, rfl⟩ ?_ ?_⟩
    · rintro i σ H' hi ⟨zH, w4, w5, w6, rfl⟩
      have hi8 : (i : Int) < 6 := by omega
      refine ⟨_, rfl, _, rfl, a, ns, 0 + (i : Int), rfl, hS.ext zH, hlen, by omega, by omega, fun c J1 zc => ?_⟩
      refine ⟨c, rfl, fun p J2 hp zs hsrc => ?_⟩
      refine ⟨3, rfl, by decide, by decide, fun D hD => lc_range (lo := 0) (n := 3) (fun j H2 => SrcAt H2 p ∧ (∀ c u, c ≠ p → c ≠ D → J2 c = some u → H2 c = some u) ∧ H2 D = some (.lst ((List.replicate j true).map V.bl))) ?_ ?_ ?_⟩
      · obtain ⟨b1, b2, b3, eb⟩ := id hsrc
        exact ⟨⟨b1, b2, b3, keep eb hD⟩, fun c u _ _ e => keep e hD, upd_same⟩
      · rintro j H2 hj ⟨hs2, k2, eD⟩
        have npD : D ≠ p := (hsrc.ne hD).symm
        refine ⟨rfl, _, rfl, p, rfl, hs2, fun H3 s3 k3 => ⟨_, k3 D _ npD eD, ?_, ?_, ?_, ?_⟩⟩
        · rw [List.length_map, List.length_replicate]
          exact Nat.lt_trans hj (by decide)
        · obtain ⟨b1, b2, b3, eb⟩ := s3
          exact ⟨b1, b2, b3, by rw [upd_ne (Ne.symm npD)]; exact eb⟩
        · intro c u n1 n2 e
          rw [upd_ne n2]
          exact k3 c u n1 (k2 c u n1 n2 e)
        · rw [upd_same, List.replicate_succ', List.map_append]
          rfl
      · rintro H2 ⟨hs2, k2, eD⟩
        refine ⟨D, List.replicate 3 true, rfl, SqL.of eD, _, rfl, iteF ⟨fun c u e => ?_, _, _, _, rfl⟩⟩
        have e1 := zc _ _ (zH c u e)
        have e2 : J2 c = some u := zs _ _ e1
        exact k2 c u (ne_of_none e1 hp) (ne_of_none e2 hD) e2
    · rintro σ H' ⟨zH, w4, w5, w6, rfl⟩
      exact q _
theorem law_start {a : Addr} {ns : List Int} {H : Hp} {E : XK} {cs : List (Addr × Addr)} (hl : ns.length ≤ 63) (hH : ∀ p ∈ cs, H p.2 = some (.tbl #[])) (hS : SqL K H a (ns.map V.int)) : spLaw K [.ref a] H (fun v _ => v = .bl true) E := ⟨a, ns, rfl, hS, hl, fun _ => rfl⟩
end
end T07

namespace T07
open PySem PySem.Spec PyProof.Rows L2 SF SQ
theorem mem12 {p : Nat → Prop} (a0 : p 0) (a1 : p 1) (a2 : p 2) (a3 : p 3) (a4 : p 4) (a5 : p 5) (a6 : p 6) (a7 : p 7) (a8 : p 8) (a9 : p 9) (a10 : p 10) (a11 : p 11) (i : Nat) (h : i < 12) : p i := by
  match i, h with
  | 0, _ => exact a0
  | 1, _ => exact a1
  | 2, _ => exact a2
  | 3, _ => exact a3
  | 4, _ => exact a4
  | 5, _ => exact a5
  | 6, _ => exact a6
  | 7, _ => exact a7
  | 8, _ => exact a8
  | 9, _ => exact a9
  | 10, _ => exact a10
  | 11, _ => exact a11
theorem mem3 {p : Nat → Prop} (a0 : p 0) (a1 : p 1) (a2 : p 2) (i : Nat) (h : i < 3) : p i := by
  match i, h with
  | 0, _ => exact a0
  | 1, _ => exact a1
  | 2, _ => exact a2
theorem mem7 {p : String → Prop} (a : p "int") (b : p "bool") (c : p "str") (d : p "NoneType") (e : p "list") (f : p "tuple") (g : p "dict") : ∀ T ∈ kinds, p T := by
  intro T h
  simp only [kinds, List.mem_cons, List.not_mem_nil, or_false] at h
  rcases h with rfl | rfl | rfl | rfl | rfl | rfl | rfl <;> assumption
theorem bnd {a b : Bool} (h : (a && b) = true) : a = true ∧ b = true := Bool.and_eq_true_iff.mp h
theorem law_binds {K : PySem.W.Frag} {f : Addr} {fd : FuncData} (F : Fun K "law" "law" sLaw f fd) (s : Shared) (u : Value) : BindsTo s fd ⟨[u], []⟩ [("_law_cells", u)] := by
  obtain ⟨oc, od, kV, doc, pm, an, cdv, ct, osl, rfl, lk, hcd⟩ := F.ex
  exact .of_eq rfl
theorem all_in {l : PySem.W.OpenLaw} {w : World} {K : PySem.W.Frag} {h : Heap} {mg : Str → Option Value} {fa : Addr} (X : K.In h) (G : h.Ns mainGlobals mg) (hfa : mg "law" = some (.ref fa)) (c : SJ.SaysJ fnJ exJ K) : SFY.LawAtG l w K 11 63 "_law_cells" mg fa [] := by
  have hh := c.facts
  obtain ⟨h0, hh⟩ := bnd hh
  obtain ⟨h1, hh⟩ := bnd hh
  obtain ⟨h2, hh⟩ := bnd hh
  obtain ⟨h3, hh⟩ := bnd hh
  obtain ⟨h4, hh⟩ := bnd hh
  obtain ⟨h5, hh⟩ := bnd hh
  obtain ⟨h6, hh⟩ := bnd hh
  have h7 := hh
  have e := hfa.symm.trans (PySem.W.mg_of X G (SJ.decB (p := PySem.W.nsIn K mainGlobals "law" = some (some (.ref (He.ga K "law")))) (SJ.nthB h2 12)))
  cases e
  obtain ⟨fdIsW, HIsW⟩ := c.def_ 0 (d := dj0) rfl
  have FIsW : Fun K "is_whole" "is_whole" sIsW (He.ga K "is_whole") fdIsW := SJ.fun_of HIsW
  have bIsW := FIsW.binds (ps := ["value"]) fun _ _ _ _ _ _ us hl => match us, hl with | [_], _ => rfl
  obtain ⟨fdIsN, HIsN⟩ := c.def_ 1 (d := dj1) rfl
  have FIsN : Fun K "is_number" "is_number" sIsN (He.ga K "is_number") fdIsN := SJ.fun_of HIsN
  have bIsN := FIsN.binds (ps := ["value"]) fun _ _ _ _ _ _ us hl => match us, hl with | [_], _ => rfl
  obtain ⟨fdAs, HAs⟩ := c.def_ 2 (d := dj2) rfl
  have FAs : Fun K "as_ratio" "as_ratio" sAs (He.ga K "as_ratio") fdAs := SJ.fun_of HAs
  have bAs := FAs.binds (ps := ["number"]) fun _ _ _ _ _ _ us hl => match us, hl with | [_], _ => rfl
  obtain ⟨fdIsT, HIsT⟩ := c.def_ 3 (d := dj3) rfl
  have FIsT : Fun K "_is_text" "_is_text" sIsT (He.ga K "_is_text") fdIsT := SJ.fun_of HIsT
  have bIsT := FIsT.binds (ps := ["text"]) fun _ _ _ _ _ _ us hl => match us, hl with | [_], _ => rfl
  obtain ⟨fdIsP, HIsP⟩ := c.def_ 4 (d := dj4) rfl
  have FIsP : Fun K "_is_positive_text" "_is_positive_text" sIsP (He.ga K "_is_positive_text") fdIsP := SJ.fun_of HIsP
  have bIsP := FIsP.binds (ps := ["text"]) fun _ _ _ _ _ _ us hl => match us, hl with | [_], _ => rfl
  obtain ⟨fdTop, HTop⟩ := c.def_ 5 (d := dj5) rfl
  have FTop : Fun K "top" "Ratio.top" sTop (SJ.recF K (He.ma K (He.ga K "Ratio") "top") "property") fdTop := SJ.fun_of HTop
  have bTop := FTop.binds (ps := ["self"]) fun _ _ _ _ _ _ us hl => match us, hl with | [_], _ => rfl
  obtain ⟨fdBot, HBot⟩ := c.def_ 6 (d := dj6) rfl
  have FBot : Fun K "bottom" "Ratio.bottom" sBot (SJ.recF K (He.ma K (He.ga K "Ratio") "bottom") "property") fdBot := SJ.fun_of HBot
  have bBot := FBot.binds (ps := ["self"]) fun _ _ _ _ _ _ us hl => match us, hl with | [_], _ => rfl
  obtain ⟨fdEq, HEq⟩ := c.def_ 7 (d := dj7) rfl
  have FEq : Fun K "__eq__" "Ratio.__eq__" sEq (He.ma K (He.ga K "Ratio") "__eq__") fdEq := SJ.fun_of HEq
  have bEq := FEq.binds (ps := ["self", "other"]) fun _ _ _ _ _ _ us hl => match us, hl with | [_, _], _ => rfl
  obtain ⟨fdStr, HStr⟩ := c.def_ 8 (d := dj8) rfl
  have FStr : Fun K "__str__" "Ratio.__str__" sStr (He.ma K (He.ga K "Ratio") "__str__") fdStr := SJ.fun_of HStr
  have bStr := FStr.binds (ps := ["self"]) fun _ _ _ _ _ _ us hl => match us, hl with | [_], _ => rfl
  obtain ⟨fdRepr, HRepr⟩ := c.def_ 9 (d := dj9) rfl
  have FRepr : Fun K "__repr__" "Ratio.__repr__" sRepr (He.ma K (He.ga K "Ratio") "__repr__") fdRepr := SJ.fun_of HRepr
  have bRepr := FRepr.binds (ps := ["self"]) fun _ _ _ _ _ _ us hl => match us, hl with | [_], _ => rfl
  obtain ⟨fdSLen, HSLen⟩ := c.def_ 10 (d := dj10) rfl
  have FSLen : Fun K "__len__" "Series.__len__" sSLen (He.ma K (He.ga K "Series") "__len__") fdSLen := SJ.fun_of HSLen
  have bSLen := FSLen.binds (ps := ["self"]) fun _ _ _ _ _ _ us hl => match us, hl with | [_], _ => rfl
  obtain ⟨fdSEq, HSEq⟩ := c.def_ 11 (d := dj11) rfl
  have FSEq : Fun K "__eq__" "Series.__eq__" sSEq (He.ma K (He.ga K "Series") "__eq__") fdSEq := SJ.fun_of HSEq
  have bSEq := FSEq.binds (ps := ["self", "other"]) fun _ _ _ _ _ _ us hl => match us, hl with | [_, _], _ => rfl
  obtain ⟨fdSStr, HSStr⟩ := c.def_ 12 (d := dj12) rfl
  have FSStr : Fun K "__str__" "Series.__str__" sSStr (He.ma K (He.ga K "Series") "__str__") fdSStr := SJ.fun_of HSStr
  have bSStr := FSStr.binds (ps := ["self"]) fun _ _ _ _ _ _ us hl => match us, hl with | [_], _ => rfl
  obtain ⟨fdSRepr, HSRepr⟩ := c.def_ 13 (d := dj13) rfl
  have FSRepr : Fun K "__repr__" "Series.__repr__" sSRepr (He.ma K (He.ga K "Series") "__repr__") fdSRepr := SJ.fun_of HSRepr
  have bSRepr := FSRepr.binds (ps := ["self"]) fun _ _ _ _ _ _ us hl => match us, hl with | [_], _ => rfl
  obtain ⟨fdSEnt, HSEnt⟩ := c.def_ 14 (d := dj14) rfl
  have FSEnt : Fun K "entries" "Series.entries" sSEnt (SJ.recF K (He.ma K (He.ga K "Series") "entries") "property") fdSEnt := SJ.fun_of HSEnt
  have bSEnt := FSEnt.binds (ps := ["self"]) fun _ _ _ _ _ _ us hl => match us, hl with | [_], _ => rfl
  obtain ⟨fdSMis, HSMis⟩ := c.def_ 15 (d := dj15) rfl
  have FSMis : Fun K "missing" "Series.missing" sSMis (SJ.recF K (He.ma K (He.ga K "Series") "missing") "property") fdSMis := SJ.fun_of HSMis
  have bSMis := FSMis.binds (ps := ["self"]) fun _ _ _ _ _ _ us hl => match us, hl with | [_], _ => rfl
  obtain ⟨fdREnt, HREnt⟩ := c.def_ 16 (d := dj16) rfl
  have FREnt : Fun K "_read_entry" "_read_entry" sREnt (He.ga K "_read_entry") fdREnt := SJ.fun_of HREnt
  have bREnt := FREnt.binds (ps := ["word", "text"]) fun _ _ _ _ _ _ us hl => match us, hl with | [_, _], _ => rfl
  obtain ⟨fdCell, HCell⟩ := c.def_ 17 (d := dj17) rfl
  have FCell : Fun K "_law_cell" "_law_cell" sCell (He.ga K "_law_cell") fdCell := SJ.fun_of HCell
  have bCell := FCell.binds (ps := ["_law_cells", "_law_k"]) fun _ _ _ _ _ _ us hl => match us, hl with | [_, _], _ => rfl
  obtain ⟨fdSrc, HSrc⟩ := c.def_ 18 (d := dj18) rfl
  have FSrc : Fun K "_law_source" "_law_source" sSrc (He.ga K "_law_source") fdSrc := SJ.fun_of HSrc
  have bSrc := FSrc.binds (ps := ["_law_cell_here"]) fun _ _ _ _ _ _ us hl => match us, hl with | [_], _ => rfl
  obtain ⟨fdDraw, HDraw⟩ := c.def_ 19 (d := dj19) rfl
  have FDraw : Fun K "_law_draw" "_law_draw" sDraw (He.ga K "_law_draw") fdDraw := SJ.fun_of HDraw
  have bDraw := FDraw.binds (ps := ["_law_source_here", "_law_many"]) fun _ _ _ _ _ _ us hl => match us, hl with | [_, _], _ => rfl
  obtain ⟨fdCom, HCom⟩ := c.def_ 20 (d := dj20) rfl
  have FCom : Fun K "_law_common" "_law_common" sCom (He.ga K "_law_common") fdCom := SJ.fun_of HCom
  have bCom := FCom.binds (ps := ["_law_one", "_law_two"]) fun _ _ _ _ _ _ us hl => match us, hl with | [_, _], _ => rfl
  obtain ⟨fdLow, HLow⟩ := c.def_ 21 (d := dj21) rfl
  have FLow : Fun K "_law_lowest" "_law_lowest" sLow (He.ga K "_law_lowest") fdLow := SJ.fun_of HLow
  have bLow := FLow.binds (ps := ["_law_upper", "_law_lower"]) fun _ _ _ _ _ _ us hl => match us, hl with | [_, _], _ => rfl
  obtain ⟨fdWho, HWho⟩ := c.def_ 22 (d := dj22) rfl
  have FWho : Fun K "_law_whole" "_law_whole" sWho (He.ga K "_law_whole") fdWho := SJ.fun_of HWho
  have bWho := FWho.binds (ps := ["_law_source_here"]) fun _ _ _ _ _ _ us hl => match us, hl with | [_], _ => rfl
  obtain ⟨fdPair, HPair⟩ := c.def_ 23 (d := dj23) rfl
  have FPair : Fun K "_law_pair" "_law_pair" sPair (He.ga K "_law_pair") fdPair := SJ.fun_of HPair
  have bPair := FPair.binds (ps := ["_law_source_here"]) fun _ _ _ _ _ _ us hl => match us, hl with | [_], _ => rfl
  obtain ⟨fdNum, HNum⟩ := c.def_ 24 (d := dj24) rfl
  have FNum : Fun K "_law_number_text" "_law_number_text" sNum (He.ga K "_law_number_text") fdNum := SJ.fun_of HNum
  have bNum := FNum.binds (ps := ["_law_pair_here"]) fun _ _ _ _ _ _ us hl => match us, hl with | [_], _ => rfl
  obtain ⟨fdEnt, HEnt⟩ := c.def_ 25 (d := dj25) rfl
  have FEnt : Fun K "_law_entry" "_law_entry" sEnt (He.ga K "_law_entry") fdEnt := SJ.fun_of HEnt
  have bEnt := FEnt.binds (ps := ["_law_source_here"]) fun _ _ _ _ _ _ us hl => match us, hl with | [_], _ => rfl
  obtain ⟨fdRow, HRow⟩ := c.def_ 26 (d := dj26) rfl
  have FRow : Fun K "_law_row" "_law_row" sRow (He.ga K "_law_row") fdRow := SJ.fun_of HRow
  have bRow := FRow.binds (ps := ["_law_source_here"]) fun _ _ _ _ _ _ us hl => match us, hl with | [_], _ => rfl
  obtain ⟨fdGiv, HGiv⟩ := c.def_ 27 (d := dj27) rfl
  have FGiv : Fun K "_law_given" "_law_given" sGiv (He.ga K "_law_given") fdGiv := SJ.fun_of HGiv
  have bGiv := FGiv.binds (ps := ["_law_source_here", "_law_row_here"]) fun _ _ _ _ _ _ us hl => match us, hl with | [_, _], _ => rfl
  obtain ⟨fdWri, HWri⟩ := c.def_ 28 (d := dj28) rfl
  have FWri : Fun K "_law_written" "_law_written" sWri (He.ga K "_law_written") fdWri := SJ.fun_of HWri
  have bWri := FWri.binds (ps := ["_law_row_here"]) fun _ _ _ _ _ _ us hl => match us, hl with | [_], _ => rfl
  obtain ⟨fdSho, HSho⟩ := c.def_ 29 (d := dj29) rfl
  have FSho : Fun K "_law_shown_right" "_law_shown_right" sSho (He.ga K "_law_shown_right") fdSho := SJ.fun_of HSho
  have bSho := FSho.binds (ps := ["_law_made", "_law_row_here"]) fun _ _ _ _ _ _ us hl => match us, hl with | [_, _], _ => rfl
  obtain ⟨fdOth, HOth⟩ := c.def_ 30 (d := dj30) rfl
  have FOth : Fun K "_law_other" "_law_other" sOth (He.ga K "_law_other") fdOth := SJ.fun_of HOth
  have bOth := FOth.binds (ps := ["_law_source_here", "_law_row_here"]) fun _ _ _ _ _ _ us hl => match us, hl with | [_, _], _ => rfl
  obtain ⟨fdRight, HRight⟩ := c.def_ 31 (d := dj31) rfl
  have FRight : Fun K "_law_right" "_law_right" sRight (He.ga K "_law_right") fdRight := SJ.fun_of HRight
  have bRight := FRight.binds (ps := ["_law_source_here"]) fun _ _ _ _ _ _ us hl => match us, hl with | [_], _ => rfl
  obtain ⟨fdLaw, HLaw⟩ := c.def_ 32 (d := dj32) rfl
  have FLaw : Fun K "law" "law" sLaw (He.ga K "law") fdLaw := SJ.fun_of HLaw
  have bLaw := FLaw.binds (ps := ["_law_cells"]) fun _ _ _ _ _ _ us hl => match us, hl with | [_], _ => rfl
  obtain ⟨fdRd, HRd⟩ := c.def_ 33 (d := dj33) rfl
  have FRd : Fun K "read" "Ratio.read" sRd (SJ.recF K (SJ.clsP K (He.ga K "Ratio") "read") "classmethod") fdRd := SJ.fun_of HRd
  have bRd := FRd.binds (ps := ["cls", "text"]) fun _ _ _ _ _ _ us hl => match us, hl with | [_, _], _ => rfl
  obtain ⟨fdSR, HSR⟩ := c.def_ 34 (d := dj34) rfl
  have FSR : Fun K "read" "Series.read" sSR (SJ.recF K (SJ.clsP K (He.ga K "Series") "read") "classmethod") fdSR := SJ.fun_of HSR
  have bSR := FSR.binds (ps := ["cls", "text"]) fun _ _ _ _ _ _ us hl => match us, hl with | [_, _], _ => rfl
  obtain ⟨fdI, HI⟩ := c.def_ 35 (d := dj35) rfl
  have FI : FunD K "__init__" "Ratio.__init__" (defArgs sIni) (defBody sIni) (defScope sIni) [V.int 1] [] (He.ma K (He.ga K "Ratio") "__init__") fdI := HI
  obtain ⟨fdSI, HSI⟩ := c.def_ 36 (d := dj36) rfl
  have FSI : Fun K "__init__" "Series.__init__" sSI (He.ma K (He.ga K "Series") "__init__") fdSI := SJ.fun_of HSI
  have bSI := FSI.binds (ps := ["self", "entries"]) fun _ _ _ _ _ _ us hl => match us, hl with | [_, _], _ => rfl
  obtain ⟨tkG, eG⟩ := SK.isStr_ok X G (show (SK.isStr K "GAP" "_") = true from (SJ.nthB h6 19))
  obtain ⟨i0, v0, bI⟩ := FI.binds1 (ps := ["self", "top", "bottom"]) 3 1 (by simp) rfl (fun T kV doc pm an cdv ct us its h1 h2 => match us, its, h1, h2 with | [_, _, _], [_], _, _ => ⟨_, rfl, rfl⟩)
  cases v0
  obtain ⟨i1, v1, b1⟩ := FI.binds1 (ps := ["self", "top", "bottom"]) 2 0 (by simp) rfl (fun T kV doc pm an cdv ct us its h1 h2 => match us, its, h1, h2 with | [_, _], [_], _, _ => ⟨_, rfl, rfl⟩)
  have RR : RC K mg (He.ga K "Ratio") := { cl := ⟨(show (PySem.W.plainGet K (He.ga K "Ratio") Str.empty) = true from (SJ.nthB h3 8)), (show (PySem.W.hasDictIn K (He.ga K "Ratio")) = true from (SJ.nthB h3 9)), (show (PySem.W.plainOver K (He.ga K "Ratio")) = true from (SJ.nthB h3 10)), (SJ.decB (p := PySem.W.findIn K (.ref (He.ga K "Ratio")) "__setattr__" = some (some (.builtin "object.__setattr__"))) (SJ.nthB h3 11))⟩, nT := (SJ.decB (p := PySem.W.findIn K (.ref (He.ga K "Ratio")) "_top" = some none) (SJ.nthB h3 12)), nB := (SJ.decB (p := PySem.W.findIn K (.ref (He.ga K "Ratio")) "_bottom" = some none) (SJ.nthB h3 13)), mgC := PySem.W.mg_of X G (SJ.decB (p := PySem.W.nsIn K mainGlobals "Ratio" = some (some (.ref (He.ga K "Ratio")))) (SJ.nthB h0 0)), isi := (PySem.W.mg_none_of X G (SJ.decB (p := PySem.W.nsIn K mainGlobals "isinstance" = some none) (SJ.nthB h7 10))), int_ := (PySem.W.mg_none_of X G (SJ.decB (p := PySem.W.nsIn K mainGlobals "int" = some none) (SJ.nthB h7 2))), bool_ := (PySem.W.mg_none_of X G (SJ.decB (p := PySem.W.nsIn K mainGlobals "bool" = some none) (SJ.nthB h7 11))), str_ := (PySem.W.mg_none_of X G (SJ.decB (p := PySem.W.nsIn K mainGlobals "str" = some none) (SJ.nthB h7 12))), abs_ := (PySem.W.mg_none_of X G (SJ.decB (p := PySem.W.nsIn K mainGlobals "abs" = some none) (SJ.nthB h7 3))), range_ := (PySem.W.mg_none_of X G (SJ.decB (p := PySem.W.nsIn K mainGlobals "range" = some none) (SJ.nthB h7 5))), repr_ := (PySem.W.mg_none_of X G (SJ.decB (p := PySem.W.nsIn K mainGlobals "repr" = some none) (SJ.nthB h7 9))), gcd := PySem.W.mg_of X G (SJ.decB (p := PySem.W.nsIn K mainGlobals "gcd" = some (some (.builtin "math.gcd"))) (SJ.nthB h4 7)), kB := mem7 (p := fun T => PySem.W.kitOne K (.type T) (.ref (He.ga K "Ratio")) = some false) (SJ.decB (p := PySem.W.kitOne K (.type "int") (.ref (He.ga K "Ratio")) = some false) (SJ.nthB h3 14)) (SJ.decB (p := PySem.W.kitOne K (.type "bool") (.ref (He.ga K "Ratio")) = some false) (SJ.nthB h3 15)) (SJ.decB (p := PySem.W.kitOne K (.type "str") (.ref (He.ga K "Ratio")) = some false) (SJ.nthB h3 16)) (SJ.decB (p := PySem.W.kitOne K (.type "NoneType") (.ref (He.ga K "Ratio")) = some false) (SJ.nthB h3 17)) (SJ.decB (p := PySem.W.kitOne K (.type "list") (.ref (He.ga K "Ratio")) = some false) (SJ.nthB h3 18)) (SJ.decB (p := PySem.W.kitOne K (.type "tuple") (.ref (He.ga K "Ratio")) = some false) (SJ.nthB h3 19)) (SJ.decB (p := PySem.W.kitOne K (.type "dict") (.ref (He.ga K "Ratio")) = some false) (SJ.nthB h4 0)), kC := (SJ.decB (p := PySem.W.kitOne K (.ref (He.ga K "Ratio")) (.ref (He.ga K "Ratio")) = some true) (SJ.nthB h4 1)), ca := (SJ.decB (p := PySem.W.findIn K (.ref (He.ga K "Ratio")) "__class__" = some (some (.builtin "object.__class__"))) (SJ.nthB h4 3)), cn := (SJ.decB (p := PySem.W.specialIn K (.builtin "object.__class__") "__get__" = some (some (.builtin "getset_descriptor.__get__"))) (SJ.nthB h4 4)), ct := (SJ.decB (p := PySem.W.takesIn K (.builtin "object.__class__") = some true) (SJ.nthB h4 5)), cm := (SJ.decB (p := PySem.W.mroIn K (He.ga K "Ratio") (.type "object") = some true) (SJ.nthB h4 6)) }
  let T : Tx K mg (He.ga K "Ratio") := { rc := RR, kI := (SJ.decB (p := PySem.W.kitOne K (.ref (He.ga K "Ratio")) (.type "int") = some false) (SJ.nthB h4 2)), len := (PySem.W.mg_none_of X G (SJ.decB (p := PySem.W.nsIn K mainGlobals "len" = some none) (SJ.nthB h7 1))), dvm := (PySem.W.mg_none_of X G (SJ.decB (p := PySem.W.nsIn K mainGlobals "divmod" = some none) (SJ.nthB h7 4))), max_ := (PySem.W.mg_none_of X G (SJ.decB (p := PySem.W.nsIn K mainGlobals "max" = some none) (SJ.nthB h7 6))), min_ := (PySem.W.mg_none_of X G (SJ.decB (p := PySem.W.nsIn K mainGlobals "min" = some none) (SJ.nthB h7 7))), all_ := (PySem.W.mg_none_of X G (SJ.decB (p := PySem.W.nsIn K mainGlobals "all" = some none) (SJ.nthB h7 8))), aIni := (He.ma K (He.ga K "Ratio") "__init__"), dIni := fdI, dv := i1, vv := v1, FIni := FI, M := ⟨(show (PySem.W.makesIn K (He.ga K "Ratio")) = true from (SJ.nthB h3 6)), (SJ.decB (p := PySem.W.findIn K (.ref (He.ga K "Ratio")) "__init__" = some (some (.ref (He.ma K (He.ga K "Ratio") "__init__")))) (SJ.nthB h3 3)), (show (PySem.W.isFn K (.ref (He.ma K (He.ga K "Ratio") "__init__"))) = true from (SJ.nthB h3 4)), (show (PySem.W.keepIn K (.ref (He.ga K "Ratio"))) = true from (SJ.nthB h3 7))⟩, b2 := bI, b1 := b1, hNe := ⟨(SJ.decB (p := PySem.W.findIn K (.ref (He.ga K "Ratio")) "__ne__" = some (some (.builtin "object.__ne__"))) (SJ.nthB h3 5))⟩, sIC := ⟨(SJ.decB (p := PySem.W.subIn K (.type "int") (.ref (He.ga K "Ratio")) = some false) (SJ.nthB h4 8))⟩, S := (He.ga K "Series"), gS := PySem.W.mg_of X G (SJ.decB (p := PySem.W.nsIn K mainGlobals "Series" = some (some (.ref (He.ga K "Series")))) (SJ.nthB h4 9)), clS := ⟨(show (PySem.W.plainGet K (He.ga K "Series") Str.empty) = true from (SJ.nthB h4 14)), (show (PySem.W.hasDictIn K (He.ga K "Series")) = true from (SJ.nthB h4 15)), (show (PySem.W.plainOver K (He.ga K "Series")) = true from (SJ.nthB h4 16)), (SJ.decB (p := PySem.W.findIn K (.ref (He.ga K "Series")) "__setattr__" = some (some (.builtin "object.__setattr__"))) (SJ.nthB h4 17))⟩, nE := (SJ.decB (p := PySem.W.findIn K (.ref (He.ga K "Series")) "_entries" = some none) (SJ.nthB h4 18)), aSI := (He.ma K (He.ga K "Series") "__init__"), dSI := fdSI, FSI := FSI, bSI := bSI, MS := ⟨(show (PySem.W.makesIn K (He.ga K "Series")) = true from (SJ.nthB h4 12)), (SJ.decB (p := PySem.W.findIn K (.ref (He.ga K "Series")) "__init__" = some (some (.ref (He.ma K (He.ga K "Series") "__init__")))) (SJ.nthB h4 10)), (show (PySem.W.isFn K (.ref (He.ma K (He.ga K "Series") "__init__"))) = true from (SJ.nthB h4 11)), (show (PySem.W.keepIn K (.ref (He.ga K "Series"))) = true from (SJ.nthB h4 13))⟩, sk := ⟨⟨⟨mem7 (p := fun T => PySem.W.subIn K (.ref (He.ga K "Series")) (.type T) = some false) (SJ.decB (p := PySem.W.subIn K (.ref (He.ga K "Series")) (.type "int") = some false) (SJ.nthB h5 0)) (SJ.decB (p := PySem.W.subIn K (.ref (He.ga K "Series")) (.type "bool") = some false) (SJ.nthB h5 5)) (SJ.decB (p := PySem.W.subIn K (.ref (He.ga K "Series")) (.type "str") = some false) (SJ.nthB h5 10)) (SJ.decB (p := PySem.W.subIn K (.ref (He.ga K "Series")) (.type "NoneType") = some false) (SJ.nthB h5 15)) (SJ.decB (p := PySem.W.subIn K (.ref (He.ga K "Series")) (.type "list") = some false) (SJ.nthB h6 0)) (SJ.decB (p := PySem.W.subIn K (.ref (He.ga K "Series")) (.type "tuple") = some false) (SJ.nthB h6 5)) (SJ.decB (p := PySem.W.subIn K (.ref (He.ga K "Series")) (.type "dict") = some false) (SJ.nthB h6 10))⟩, mem7 (p := fun T => PySem.W.subIn K (.type T) (.ref (He.ga K "Series")) = some false) (SJ.decB (p := PySem.W.subIn K (.type "int") (.ref (He.ga K "Series")) = some false) (SJ.nthB h5 1)) (SJ.decB (p := PySem.W.subIn K (.type "bool") (.ref (He.ga K "Series")) = some false) (SJ.nthB h5 6)) (SJ.decB (p := PySem.W.subIn K (.type "str") (.ref (He.ga K "Series")) = some false) (SJ.nthB h5 11)) (SJ.decB (p := PySem.W.subIn K (.type "NoneType") (.ref (He.ga K "Series")) = some false) (SJ.nthB h5 16)) (SJ.decB (p := PySem.W.subIn K (.type "list") (.ref (He.ga K "Series")) = some false) (SJ.nthB h6 1)) (SJ.decB (p := PySem.W.subIn K (.type "tuple") (.ref (He.ga K "Series")) = some false) (SJ.nthB h6 6)) (SJ.decB (p := PySem.W.subIn K (.type "dict") (.ref (He.ga K "Series")) = some false) (SJ.nthB h6 11))⟩, mem7 (p := fun T => PySem.W.kitOne K (.type T) (.ref (He.ga K "Series")) = some false) (SJ.decB (p := PySem.W.kitOne K (.type "int") (.ref (He.ga K "Series")) = some false) (SJ.nthB h4 19)) (SJ.decB (p := PySem.W.kitOne K (.type "bool") (.ref (He.ga K "Series")) = some false) (SJ.nthB h5 4)) (SJ.decB (p := PySem.W.kitOne K (.type "str") (.ref (He.ga K "Series")) = some false) (SJ.nthB h5 9)) (SJ.decB (p := PySem.W.kitOne K (.type "NoneType") (.ref (He.ga K "Series")) = some false) (SJ.nthB h5 14)) (SJ.decB (p := PySem.W.kitOne K (.type "list") (.ref (He.ga K "Series")) = some false) (SJ.nthB h5 19)) (SJ.decB (p := PySem.W.kitOne K (.type "tuple") (.ref (He.ga K "Series")) = some false) (SJ.nthB h6 4)) (SJ.decB (p := PySem.W.kitOne K (.type "dict") (.ref (He.ga K "Series")) = some false) (SJ.nthB h6 9)), (SJ.decB (p := PySem.W.kitOne K (.ref (He.ga K "Series")) (.ref (He.ga K "Series")) = some true) (SJ.nthB h6 14)), (SJ.decB (p := PySem.W.findIn K (.ref (He.ga K "Series")) "__class__" = some (some (.builtin "object.__class__"))) (SJ.nthB h6 15)), (SJ.decB (p := PySem.W.specialIn K (.builtin "object.__class__") "__get__" = some (some (.builtin "getset_descriptor.__get__"))) (SJ.nthB h4 4)), (SJ.decB (p := PySem.W.takesIn K (.builtin "object.__class__") = some true) (SJ.nthB h4 5)), (SJ.decB (p := PySem.W.mroIn K (He.ga K "Series") (.type "object") = some true) (SJ.nthB h6 16)), (SJ.decB (p := PySem.W.findIn K (.ref (He.ga K "Series")) "__ne__" = some (some (.builtin "object.__ne__"))) (SJ.nthB h6 17)), (SJ.decB (p := PySem.W.findIn K (.ref (He.ga K "Series")) "__bool__" = some none) (SJ.nthB h6 18))⟩, cS := ⟨⟨mem7 (p := fun T => PySem.W.subIn K (.ref (He.ga K "Ratio")) (.type T) = some false) (SJ.decB (p := PySem.W.subIn K (.ref (He.ga K "Ratio")) (.type "int") = some false) (SJ.nthB h5 2)) (SJ.decB (p := PySem.W.subIn K (.ref (He.ga K "Ratio")) (.type "bool") = some false) (SJ.nthB h5 7)) (SJ.decB (p := PySem.W.subIn K (.ref (He.ga K "Ratio")) (.type "str") = some false) (SJ.nthB h5 12)) (SJ.decB (p := PySem.W.subIn K (.ref (He.ga K "Ratio")) (.type "NoneType") = some false) (SJ.nthB h5 17)) (SJ.decB (p := PySem.W.subIn K (.ref (He.ga K "Ratio")) (.type "list") = some false) (SJ.nthB h6 2)) (SJ.decB (p := PySem.W.subIn K (.ref (He.ga K "Ratio")) (.type "tuple") = some false) (SJ.nthB h6 7)) (SJ.decB (p := PySem.W.subIn K (.ref (He.ga K "Ratio")) (.type "dict") = some false) (SJ.nthB h6 12))⟩, mem7 (p := fun T => PySem.W.subIn K (.type T) (.ref (He.ga K "Ratio")) = some false) (SJ.decB (p := PySem.W.subIn K (.type "int") (.ref (He.ga K "Ratio")) = some false) (SJ.nthB h5 3)) (SJ.decB (p := PySem.W.subIn K (.type "bool") (.ref (He.ga K "Ratio")) = some false) (SJ.nthB h5 8)) (SJ.decB (p := PySem.W.subIn K (.type "str") (.ref (He.ga K "Ratio")) = some false) (SJ.nthB h5 13)) (SJ.decB (p := PySem.W.subIn K (.type "NoneType") (.ref (He.ga K "Ratio")) = some false) (SJ.nthB h5 18)) (SJ.decB (p := PySem.W.subIn K (.type "list") (.ref (He.ga K "Ratio")) = some false) (SJ.nthB h6 3)) (SJ.decB (p := PySem.W.subIn K (.type "tuple") (.ref (He.ga K "Ratio")) = some false) (SJ.nthB h6 8)) (SJ.decB (p := PySem.W.subIn K (.type "dict") (.ref (He.ga K "Ratio")) = some false) (SJ.nthB h6 13))⟩, tkG := tkG, gap := eG, enum := (PySem.W.mg_none_of X G (SJ.decB (p := PySem.W.nsIn K mainGlobals "enumerate" = some none) (SJ.nthB h7 13))), tup := (PySem.W.mg_none_of X G (SJ.decB (p := PySem.W.nsIn K mainGlobals "tuple" = some none) (SJ.nthB h7 14))), lst := (PySem.W.mg_none_of X G (SJ.decB (p := PySem.W.nsIn K mainGlobals "list" = some none) (SJ.nthB h7 15))), aET := (He.ga K "InvalidText"), gET := PySem.W.mg_of X G (SJ.decB (p := PySem.W.nsIn K mainGlobals "InvalidText" = some (some (.ref (He.ga K "InvalidText")))) (SJ.nthB h7 0)), aIsW := (He.ga K "is_whole"), dIsW := fdIsW, FIsW := FIsW, bIsW := bIsW, gIsW := PySem.W.mg_of X G (SJ.decB (p := PySem.W.nsIn K mainGlobals "is_whole" = some (some (.ref (He.ga K "is_whole")))) (SJ.nthB h0 1)), aIsN := (He.ga K "is_number"), dIsN := fdIsN, FIsN := FIsN, bIsN := bIsN, gIsN := PySem.W.mg_of X G (SJ.decB (p := PySem.W.nsIn K mainGlobals "is_number" = some (some (.ref (He.ga K "is_number")))) (SJ.nthB h0 2)), aAs := (He.ga K "as_ratio"), dAs := fdAs, FAs := FAs, bAs := bAs, gAs := PySem.W.mg_of X G (SJ.decB (p := PySem.W.nsIn K mainGlobals "as_ratio" = some (some (.ref (He.ga K "as_ratio")))) (SJ.nthB h0 3)), aIsT := (He.ga K "_is_text"), dIsT := fdIsT, FIsT := FIsT, bIsT := bIsT, gIsT := PySem.W.mg_of X G (SJ.decB (p := PySem.W.nsIn K mainGlobals "_is_text" = some (some (.ref (He.ga K "_is_text")))) (SJ.nthB h0 4)), aIsP := (He.ga K "_is_positive_text"), dIsP := fdIsP, FIsP := FIsP, bIsP := bIsP, gIsP := PySem.W.mg_of X G (SJ.decB (p := PySem.W.nsIn K mainGlobals "_is_positive_text" = some (some (.ref (He.ga K "_is_positive_text")))) (SJ.nthB h0 5)), aTop := (SJ.recF K (He.ma K (He.ga K "Ratio") "top") "property"), dTop := fdTop, FTop := FTop, bTop := bTop, pTop := (He.ma K (He.ga K "Ratio") "top"), PTop := ⟨(SJ.decB (p := PySem.W.findIn K (.ref (He.ga K "Ratio")) "top" = some (some (.ref (He.ma K (He.ga K "Ratio") "top")))) (SJ.nthB h0 6)), (SJ.decB (p := PySem.W.specialIn K (.ref (He.ma K (He.ga K "Ratio") "top")) "__get__" = some (some (.builtin "property.__get__"))) (SJ.nthB h0 7)), (SJ.decB (p := PySem.W.takesIn K (.ref (He.ma K (He.ga K "Ratio") "top")) = some true) (SJ.nthB h0 8)), ⟨_, (SJ.decB (p := PySem.W.recIn K (He.ma K (He.ga K "Ratio") "top") "property" = some (.ref (SJ.recF K (He.ma K (He.ga K "Ratio") "top") "property") :: SJ.recR K (He.ma K (He.ga K "Ratio") "top") "property")) (SJ.nthB h0 9))⟩⟩, aBot := (SJ.recF K (He.ma K (He.ga K "Ratio") "bottom") "property"), dBot := fdBot, FBot := FBot, bBot := bBot, pBot := (He.ma K (He.ga K "Ratio") "bottom"), PBot := ⟨(SJ.decB (p := PySem.W.findIn K (.ref (He.ga K "Ratio")) "bottom" = some (some (.ref (He.ma K (He.ga K "Ratio") "bottom")))) (SJ.nthB h0 10)), (SJ.decB (p := PySem.W.specialIn K (.ref (He.ma K (He.ga K "Ratio") "bottom")) "__get__" = some (some (.builtin "property.__get__"))) (SJ.nthB h0 11)), (SJ.decB (p := PySem.W.takesIn K (.ref (He.ma K (He.ga K "Ratio") "bottom")) = some true) (SJ.nthB h0 12)), ⟨_, (SJ.decB (p := PySem.W.recIn K (He.ma K (He.ga K "Ratio") "bottom") "property" = some (.ref (SJ.recF K (He.ma K (He.ga K "Ratio") "bottom") "property") :: SJ.recR K (He.ma K (He.ga K "Ratio") "bottom") "property")) (SJ.nthB h0 13))⟩⟩, aEq := (He.ma K (He.ga K "Ratio") "__eq__"), dEq := fdEq, FEq := FEq, bEq := bEq, hEq := ⟨(SJ.decB (p := PySem.W.findIn K (.ref (He.ga K "Ratio")) "__eq__" = some (some (.ref (He.ma K (He.ga K "Ratio") "__eq__")))) (SJ.nthB h0 14)), (show (PySem.W.isFn K (.ref (He.ma K (He.ga K "Ratio") "__eq__"))) = true from (SJ.nthB h0 15))⟩, aStr := (He.ma K (He.ga K "Ratio") "__str__"), dStr := fdStr, FStr := FStr, bStr := bStr, hStr := ⟨(SJ.decB (p := PySem.W.findIn K (.ref (He.ga K "Ratio")) "__str__" = some (some (.ref (He.ma K (He.ga K "Ratio") "__str__")))) (SJ.nthB h0 16)), (show (PySem.W.isFn K (.ref (He.ma K (He.ga K "Ratio") "__str__"))) = true from (SJ.nthB h0 17))⟩, aRepr := (He.ma K (He.ga K "Ratio") "__repr__"), dRepr := fdRepr, FRepr := FRepr, bRepr := bRepr, hRepr := ⟨(SJ.decB (p := PySem.W.findIn K (.ref (He.ga K "Ratio")) "__repr__" = some (some (.ref (He.ma K (He.ga K "Ratio") "__repr__")))) (SJ.nthB h0 18)), (show (PySem.W.isFn K (.ref (He.ma K (He.ga K "Ratio") "__repr__"))) = true from (SJ.nthB h0 19))⟩, aSLen := (He.ma K (He.ga K "Series") "__len__"), dSLen := fdSLen, FSLen := FSLen, bSLen := bSLen, hSLen := ⟨(SJ.decB (p := PySem.W.findIn K (.ref (He.ga K "Series")) "__len__" = some (some (.ref (He.ma K (He.ga K "Series") "__len__")))) (SJ.nthB h1 0)), (show (PySem.W.isFn K (.ref (He.ma K (He.ga K "Series") "__len__"))) = true from (SJ.nthB h1 1))⟩, aSEq := (He.ma K (He.ga K "Series") "__eq__"), dSEq := fdSEq, FSEq := FSEq, bSEq := bSEq, hSEq := ⟨(SJ.decB (p := PySem.W.findIn K (.ref (He.ga K "Series")) "__eq__" = some (some (.ref (He.ma K (He.ga K "Series") "__eq__")))) (SJ.nthB h1 2)), (show (PySem.W.isFn K (.ref (He.ma K (He.ga K "Series") "__eq__"))) = true from (SJ.nthB h1 3))⟩, aSStr := (He.ma K (He.ga K "Series") "__str__"), dSStr := fdSStr, FSStr := FSStr, bSStr := bSStr, hSStr := ⟨(SJ.decB (p := PySem.W.findIn K (.ref (He.ga K "Series")) "__str__" = some (some (.ref (He.ma K (He.ga K "Series") "__str__")))) (SJ.nthB h1 4)), (show (PySem.W.isFn K (.ref (He.ma K (He.ga K "Series") "__str__"))) = true from (SJ.nthB h1 5))⟩, aSRepr := (He.ma K (He.ga K "Series") "__repr__"), dSRepr := fdSRepr, FSRepr := FSRepr, bSRepr := bSRepr, hSRepr := ⟨(SJ.decB (p := PySem.W.findIn K (.ref (He.ga K "Series")) "__repr__" = some (some (.ref (He.ma K (He.ga K "Series") "__repr__")))) (SJ.nthB h1 6)), (show (PySem.W.isFn K (.ref (He.ma K (He.ga K "Series") "__repr__"))) = true from (SJ.nthB h1 7))⟩, aSEnt := (SJ.recF K (He.ma K (He.ga K "Series") "entries") "property"), dSEnt := fdSEnt, FSEnt := FSEnt, bSEnt := bSEnt, pSEnt := (He.ma K (He.ga K "Series") "entries"), PSEnt := ⟨(SJ.decB (p := PySem.W.findIn K (.ref (He.ga K "Series")) "entries" = some (some (.ref (He.ma K (He.ga K "Series") "entries")))) (SJ.nthB h1 8)), (SJ.decB (p := PySem.W.specialIn K (.ref (He.ma K (He.ga K "Series") "entries")) "__get__" = some (some (.builtin "property.__get__"))) (SJ.nthB h1 9)), (SJ.decB (p := PySem.W.takesIn K (.ref (He.ma K (He.ga K "Series") "entries")) = some true) (SJ.nthB h1 10)), ⟨_, (SJ.decB (p := PySem.W.recIn K (He.ma K (He.ga K "Series") "entries") "property" = some (.ref (SJ.recF K (He.ma K (He.ga K "Series") "entries") "property") :: SJ.recR K (He.ma K (He.ga K "Series") "entries") "property")) (SJ.nthB h1 11))⟩⟩, aSMis := (SJ.recF K (He.ma K (He.ga K "Series") "missing") "property"), dSMis := fdSMis, FSMis := FSMis, bSMis := bSMis, pSMis := (He.ma K (He.ga K "Series") "missing"), PSMis := ⟨(SJ.decB (p := PySem.W.findIn K (.ref (He.ga K "Series")) "missing" = some (some (.ref (He.ma K (He.ga K "Series") "missing")))) (SJ.nthB h1 12)), (SJ.decB (p := PySem.W.specialIn K (.ref (He.ma K (He.ga K "Series") "missing")) "__get__" = some (some (.builtin "property.__get__"))) (SJ.nthB h1 13)), (SJ.decB (p := PySem.W.takesIn K (.ref (He.ma K (He.ga K "Series") "missing")) = some true) (SJ.nthB h1 14)), ⟨_, (SJ.decB (p := PySem.W.recIn K (He.ma K (He.ga K "Series") "missing") "property" = some (.ref (SJ.recF K (He.ma K (He.ga K "Series") "missing") "property") :: SJ.recR K (He.ma K (He.ga K "Series") "missing") "property")) (SJ.nthB h1 15))⟩⟩, aREnt := (He.ga K "_read_entry"), dREnt := fdREnt, FREnt := FREnt, bREnt := bREnt, gREnt := PySem.W.mg_of X G (SJ.decB (p := PySem.W.nsIn K mainGlobals "_read_entry" = some (some (.ref (He.ga K "_read_entry")))) (SJ.nthB h1 16)), aCell := (He.ga K "_law_cell"), dCell := fdCell, FCell := FCell, bCell := bCell, gCell := PySem.W.mg_of X G (SJ.decB (p := PySem.W.nsIn K mainGlobals "_law_cell" = some (some (.ref (He.ga K "_law_cell")))) (SJ.nthB h1 17)), aSrc := (He.ga K "_law_source"), dSrc := fdSrc, FSrc := FSrc, bSrc := bSrc, gSrc := PySem.W.mg_of X G (SJ.decB (p := PySem.W.nsIn K mainGlobals "_law_source" = some (some (.ref (He.ga K "_law_source")))) (SJ.nthB h1 18)), aDraw := (He.ga K "_law_draw"), dDraw := fdDraw, FDraw := FDraw, bDraw := bDraw, gDraw := PySem.W.mg_of X G (SJ.decB (p := PySem.W.nsIn K mainGlobals "_law_draw" = some (some (.ref (He.ga K "_law_draw")))) (SJ.nthB h1 19)), aCom := (He.ga K "_law_common"), dCom := fdCom, FCom := FCom, bCom := bCom, gCom := PySem.W.mg_of X G (SJ.decB (p := PySem.W.nsIn K mainGlobals "_law_common" = some (some (.ref (He.ga K "_law_common")))) (SJ.nthB h2 0)), aLow := (He.ga K "_law_lowest"), dLow := fdLow, FLow := FLow, bLow := bLow, gLow := PySem.W.mg_of X G (SJ.decB (p := PySem.W.nsIn K mainGlobals "_law_lowest" = some (some (.ref (He.ga K "_law_lowest")))) (SJ.nthB h2 1)), aWho := (He.ga K "_law_whole"), dWho := fdWho, FWho := FWho, bWho := bWho, gWho := PySem.W.mg_of X G (SJ.decB (p := PySem.W.nsIn K mainGlobals "_law_whole" = some (some (.ref (He.ga K "_law_whole")))) (SJ.nthB h2 2)), aPair := (He.ga K "_law_pair"), dPair := fdPair, FPair := FPair, bPair := bPair, gPair := PySem.W.mg_of X G (SJ.decB (p := PySem.W.nsIn K mainGlobals "_law_pair" = some (some (.ref (He.ga K "_law_pair")))) (SJ.nthB h2 3)), aNum := (He.ga K "_law_number_text"), dNum := fdNum, FNum := FNum, bNum := bNum, gNum := PySem.W.mg_of X G (SJ.decB (p := PySem.W.nsIn K mainGlobals "_law_number_text" = some (some (.ref (He.ga K "_law_number_text")))) (SJ.nthB h2 4)), aEnt := (He.ga K "_law_entry"), dEnt := fdEnt, FEnt := FEnt, bEnt := bEnt, gEnt := PySem.W.mg_of X G (SJ.decB (p := PySem.W.nsIn K mainGlobals "_law_entry" = some (some (.ref (He.ga K "_law_entry")))) (SJ.nthB h2 5)), aRow := (He.ga K "_law_row"), dRow := fdRow, FRow := FRow, bRow := bRow, gRow := PySem.W.mg_of X G (SJ.decB (p := PySem.W.nsIn K mainGlobals "_law_row" = some (some (.ref (He.ga K "_law_row")))) (SJ.nthB h2 6)), aGiv := (He.ga K "_law_given"), dGiv := fdGiv, FGiv := FGiv, bGiv := bGiv, gGiv := PySem.W.mg_of X G (SJ.decB (p := PySem.W.nsIn K mainGlobals "_law_given" = some (some (.ref (He.ga K "_law_given")))) (SJ.nthB h2 7)), aWri := (He.ga K "_law_written"), dWri := fdWri, FWri := FWri, bWri := bWri, gWri := PySem.W.mg_of X G (SJ.decB (p := PySem.W.nsIn K mainGlobals "_law_written" = some (some (.ref (He.ga K "_law_written")))) (SJ.nthB h2 8)), aSho := (He.ga K "_law_shown_right"), dSho := fdSho, FSho := FSho, bSho := bSho, gSho := PySem.W.mg_of X G (SJ.decB (p := PySem.W.nsIn K mainGlobals "_law_shown_right" = some (some (.ref (He.ga K "_law_shown_right")))) (SJ.nthB h2 9)), aOth := (He.ga K "_law_other"), dOth := fdOth, FOth := FOth, bOth := bOth, gOth := PySem.W.mg_of X G (SJ.decB (p := PySem.W.nsIn K mainGlobals "_law_other" = some (some (.ref (He.ga K "_law_other")))) (SJ.nthB h2 10)), aRight := (He.ga K "_law_right"), dRight := fdRight, FRight := FRight, bRight := bRight, gRight := PySem.W.mg_of X G (SJ.decB (p := PySem.W.nsIn K mainGlobals "_law_right" = some (some (.ref (He.ga K "_law_right")))) (SJ.nthB h2 11)), aLaw := (He.ga K "law"), dLaw := fdLaw, FLaw := FLaw, bLaw := bLaw, gLaw := PySem.W.mg_of X G (SJ.decB (p := PySem.W.nsIn K mainGlobals "law" = some (some (.ref (He.ga K "law")))) (SJ.nthB h2 12)), aRd := (SJ.recF K (SJ.clsP K (He.ga K "Ratio") "read") "classmethod"), dRd := fdRd, FRd := FRd, bRd := bRd, pRd := (SJ.clsP K (He.ga K "Ratio") "read"), mc := .type "type", rRd := ⟨(show (PySem.W.readsIn K (He.ga K "Ratio") (.type "type")) = true from (SJ.nthB h2 16)), (SJ.decB (p := PySem.W.specialIn K (.ref (He.ga K "Ratio")) "__getattribute__" = some (some (.builtin "type.__getattribute__"))) (SJ.nthB h2 17))⟩, cRd := ⟨SJ.clsB_ok (show (SJ.clsB K (He.ga K "Ratio") "read") = true from (SJ.nthB h2 13)), ⟨_, (SJ.decB (p := PySem.W.recIn K (SJ.clsP K (He.ga K "Ratio") "read") "classmethod" = some (.ref (SJ.recF K (SJ.clsP K (He.ga K "Ratio") "read") "classmethod") :: SJ.recR K (SJ.clsP K (He.ga K "Ratio") "read") "classmethod")) (SJ.nthB h2 14))⟩, (show (PySem.W.fnIn K (SJ.recF K (SJ.clsP K (He.ga K "Ratio") "read") "classmethod")) = true from (SJ.nthB h2 15))⟩, aSR := (SJ.recF K (SJ.clsP K (He.ga K "Series") "read") "classmethod"), dSR := fdSR, FSR := FSR, bSR := bSR, pSR := (SJ.clsP K (He.ga K "Series") "read"), mcS := .type "type", rSR := ⟨(show (PySem.W.readsIn K (He.ga K "Series") (.type "type")) = true from (SJ.nthB h3 1)), (SJ.decB (p := PySem.W.specialIn K (.ref (He.ga K "Series")) "__getattribute__" = some (some (.builtin "type.__getattribute__"))) (SJ.nthB h3 2))⟩, cSR := ⟨SJ.clsB_ok (show (SJ.clsB K (He.ga K "Series") "read") = true from (SJ.nthB h2 18)), ⟨_, (SJ.decB (p := PySem.W.recIn K (SJ.clsP K (He.ga K "Series") "read") "classmethod" = some (.ref (SJ.recF K (SJ.clsP K (He.ga K "Series") "read") "classmethod") :: SJ.recR K (SJ.clsP K (He.ga K "Series") "read") "classmethod")) (SJ.nthB h2 19))⟩, (show (PySem.W.fnIn K (SJ.recF K (SJ.clsP K (He.ga K "Series") "read") "classmethod")) = true from (SJ.nthB h3 0))⟩ }
  refine ⟨fdLaw, ([].map fun c => (c, SFY.tabOf K c)), spLaw K , SFY.tabsB_ok (show (SFY.tabsB K [] []) = true from (SJ.nthB h7 16)), fun s u => law_binds FLaw s u, fun H a ns hl hH hS => law_start hl hH hS, fun base _ _ TB => ?_⟩
  exact ok_law T
end T07

open PySem PySem.W PySem.Calls PyProof.Rows in
set_option maxRecDepth 100000 in
set_option maxHeartbeats 0 in
theorem PySem.Challenge.cw_seriesforms_k07_series_made_holds : PySem.Challenge.rw_seriesforms_k07_series_made.Holds := by
  w_on; o_law
  refine HeadRun.head_imp (r := OpenLaw.row PySem.Challenge.rw_seriesforms_k07_series_made) (q := view (OpenLaw.row PySem.Challenge.rw_seriesforms_k07_series_made).prog [0, 44]) (H := T07.hkJ) (ob := T07.obJ) (M := 20000) (loose := T07.looseJ) (d := HeadRun.topDef (OpenLaw.row PySem.Challenge.rw_seriesforms_k07_series_made).prog 44) (kwd := []) T07.ob_eqJ T07.runJ
    (by kernel_rfl) (by kernel_rfl) (by kernel_rfl) (by rfl) (by first | assumption | decide +kernel) (by decide +kernel) ⟨rfl, rfl, rfl, rfl, rfl, by decide +kernel⟩ ?hw ?hc
  case hw => w_witness2
  case hc =>
    refine SJ.walkJ (l := PySem.Challenge.rw_seriesforms_k07_series_made) (n := 63) (k := 11) (x := "_law_cells") rfl (by decide) (by kernel_rfl) ⟨rfl, by decide, by decide⟩ ?F
    intro w mg fa h Y G hmg0
    obtain ⟨K, KX, c, ht⟩ := Y
    have hmg : mg ("law" : PySem.Str) = some (.ref fa) := by
      have e : (HeadRun.topDef (OpenLaw.row PySem.Challenge.rw_seriesforms_k07_series_made).prog 44).name = ("law" : PySem.Str) := by kernel_rfl
      rw [← e]
      exact hmg0
    exact ⟨K, _, KX, fun P hP => by
      obtain ⟨f, hf, rfl⟩ := List.mem_map.mp (show P ∈ T07.lamJ.map (fun f => SJ.tabAt K (f K)) from hP)
      exact ht f hf, T07.all_in (l := PySem.Challenge.rw_seriesforms_k07_series_made) (w := w) KX G hmg c⟩
