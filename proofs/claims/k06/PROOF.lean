import PyProof.Rows.All
import Wide.All
import OpenK.AllK
import Wide.FinOn
import HandS.ForMost
import HandS.OwnEq
import HandS.SlotsOwn
import HandS.Property
import HandS.MakeKw
import HandS.MakeKwOnly
import HandS.IsInst
import HandS.Gcd
import HandS.Wide
import HandS.WideBits
import HandS.FStr
import KE.KFmtOwn
import PyProof.FactsAll.dict
import KE.KOpsOwn
import HandS.ClsMeth
import HandS.StrMore
import HandS.Text
import PyProof.StrLawsAffix
import HandS.ExcInit
import HandS.ExcIs
import HandS.ExcField
import HandS.ExcValue
import KE.KExcInit
import HandS.TryMany
import HandS.HotCalls
import KE.KTryMore
import HandS.Lambda
import HandS.ExcOwn
import PyProof.Rows.Digits
import PyProof.Rows.StrOr
import HandS.EndTab
import HandS.HeadWalk
import KE.KNestM
import KE.HD3
import HandS.HeadHook1
import HandS.HeadHook2
import HandS.CallLocal
import HandS.DeepEq
import PySem.Challenge.RW_seriesforms_k06_ratios_refused
import PyProof.Rows.SortStrRead
import HandS.Comp
import PyProof.ReprNest
import HandS.AnyAll
import KE.RegKIsAll
set_option Elab.async false
set_option maxRecDepth 100000
set_option maxHeartbeats 8000000
set_option linter.all false
/-! A def's promise where it is known that no guard runs (a container may be shown). -/
namespace SF
open PySem PySem.Spec PyProof.Rows L2

structure FnG (P : Program) (w : World) (K : PySem.W.Frag) (mg : Str → Option Value) (base : Heap) (CX : CXT) (k : Nat) (f : Addr) (fd : FuncData) (ps : List Str) (sp : Sp) : Prop where
  len : ∀ vs H Q E, sp vs H Q E → vs.length = ps.length
  run : ∀ (A : Around) (outer : List Env) (s : Shared) (H : Hp) (args : Args) (us : List Value) (vs : List V) (Q : VK) (E : XK), A.guards = some [] → Room k A → Env0 P w K mg base A outer s H → BindsTo s fd args (ps.zip us) → Vals vs us → sp vs H Q E →
    codeAny (model P w) A (.call (.ref f) args) (CR CX outer P w H s Q E) s

section
variable {X : Cx} {CX : CXT} {k : Nat} {f : Addr} {fd : FuncData} {ps : List Str} {sp : Sp} {dvs : List V} {ds : List Value} {E : XK} {x : Str} {p pos : Pos} {e : Expr} {es : List Expr} {t : TA}
theorem run_fnG {pins : List (Addr × Obj)} {σ : L2.St} {H : Hp} {s : Shared} {Q : VK} {us : List Value} {vs : List V} (F : FnG X.prog X.w X.K X.mg X.base CX k f fd ps sp) (hgd : X.A.guards = some []) (hr : Room k X.A) (hb : Binds X.K fd ps ds) (hd : Vals dvs ds) (hx : Passes CX X E)
    (I : Inv X pins σ H s) (r : Vals vs us) (h : sp (vs ++ dvs) H Q E) : wpAny (model X.prog X.w) X.A (call (.ref f) us) (EP X pins σ Q) X.xe s := by
  have r2 : Vals (vs ++ dvs) (us ++ ds) := r.append hd
  have hl : (us ++ ds).length = ps.length := by rw [← r2.length]; exact F.len _ _ _ _ h
  refine wpAny_call (codeAny_mono (F.run X.A X.stack s H ⟨us, []⟩ (us ++ ds) (vs ++ dvs) Q E hgd hr I.env0 (hb s us I.kIn hl) r2 h) fun r s' hq => ?_)
  cases r with
  | error e => exact hx pins σ H s e s' I hq
  | ok fl =>
    cases fl with
    | ret u => exact I.after hq
    | next => exact False.elim hq
    | brk => exact False.elim hq
    | cont => exact False.elim hq
theorem pe_callG (F : FnG X.prog X.w X.K X.mg X.base CX k f fd ps sp) (hgd : X.A.guards = some []) (hr : Room k X.A) (hg : Gl X x) (hm : X.mg x = some (.ref f)) (hk : PySem.W.keepIn X.K (.ref f) = true) (hb : Binds X.K fd ps ds) (hd : Vals dvs ds) (hx : Passes CX X E)
    (ha : PA X (e :: es) t) (hdb : (x == ("__debug__" : Str)) = false := by decide) (he : starEach (e :: es) X.env = (false, eval e X.env) :: starEach es X.env := by rfl) (hpl : (backTo pos (starEach es X.env)).any (·.1) = false := by rfl) :
    PE X (.Call (.Name x p) (e :: es) [] pos) (tCall sp dvs E t) := by
  refine ⟨fun pins s σ H Q I h => ?_⟩
  refine wpAny_Call_Name_kw (ld_glob I hg hm ?_ hdb)
  refine PySem.W.callWith_K (h₀ := X.base) I.ok.mod.kin hk (thn (ha.run pos pins s σ H _ I h) fun us s1 ⟨vs, H1, I1, r, q⟩ => ⟨I1.kIn, ?_⟩) he hpl
  exact run_fnG F hgd hr hb hd hx I1 r q
end

theorem fn_ofG {CX : CXT} {P : Program} {w : World} {K : PySem.W.Frag} {mg : Str → Option Value} {base : Heap} {k : Nat} {f : Addr} {name qual : Str} {params : Arguments} {body : List Stmt} {scope : Scope} {dV kV doc pm cdv ct oc : Value} {an od : Option Addr}
    {osl : Array (Option Value)} {N ps : List Str} {sp : Sp} (lk : K.lookup f = some ⟨oc, od, .func (PySem.W.fnOf name qual params body scope dV kV doc pm an cdv ct), osl⟩) (hcd : PySem.W.codeIn K cdv qual = true) (S : FnScope N ps scope)
    (len : ∀ vs H Q E, sp vs H Q E → vs.length = ps.length)
    (hbody : ∀ (A : Around) (outer : List Env) (s : Shared) (H : Hp) (vs : List V) (Q : VK) (E : XK), A.guards = some [] → Room k (A.deeper (envOfC qual scope s.heap.objs.size f cdv)) → sp vs H Q E →
      ∃ t, PSs (cxOf CX P w K mg base N qual scope f cdv A outer s H E) body t ∧ t { nx := fun _ H' => Q .non H', rt := Q } (start N vs) H) :
    FnG P w K mg base CX (k + 1) f (PySem.W.fnOf name qual params body scope dV kV doc pm an cdv ct) ps sp := by
  refine ⟨len, fun A outer s H args us vs Q E hgd hr e0 hb r hsp => ?_⟩
  have hl := len _ _ _ _ hsp
  have KX : K.In s.heap := e0.mod.kin.keeps fun b o e => (e0.bs b o e).1
  have lim : s.heap.NoLimit := e0.mod.nolimit.keeps fun b o e => (e0.bs b o e).1
  have hkind : ∀ y ∈ ps.zip us, scope.names.lookup y.1 = some .local ∨ (scope.names.lookup y.1 = some .cell ∧ ((cellsFrom (s.heap.objs.size + 1) scope.names []).lookup y.1).isSome = true) := fun ⟨n, v⟩ hy => by
    rcases S.par n (List.of_mem_zip hy).1 with q | q
    · exact .inl q
    · exact .inr ⟨q, PySem.W.cellsFrom_some _ _ _ (.inl q)⟩
  refine codeAny_call_function hr.depth (KX _ _ lk) rfl S.co S.gen rfl (PySem.W.codeRec_of KX hcd) (hb _ _ _ _ ?_)
  refine wpAny_newFunctionEnv_cells S.kind hkind fun env he s1 x => ?_
  subst he
  refine ⟨lim.keeps x.toInCall.keep, codeAny_func ?_⟩
  obtain ⟨t, ht, hq⟩ := hbody A outer s H vs Q E hgd (hr.deeper _) hsp
  have I : Inv (cxOf CX P w K mg base N qual scope f cdv A outer s H E) [] (start N vs) H s1 := inv_start S hr.hd e0 hl r x
  refine wpAny_mono (ht.run [] s1 (start N vs) H _ I hq) (fun fl s' hs => ?_) fun e s' hs => hs
  have fin : ∀ {σ' : L2.St} {H' : Hp} {v : V} {u : Value}, Inv (cxOf CX P w K mg base N qual scope f cdv A outer s H E) [] σ' H' s' → RelV v u → Q v H' → CE outer P w H s Q u s' :=
    fun {σ' H' v u} J rv q => ⟨v, H', J.os, J.bare, J.base, J.hok, rv, q⟩
  cases fl with
  | ret u =>
    obtain ⟨v, σ', H', J, rv, q⟩ := hs
    exact fin J rv q
  | next =>
    obtain ⟨σ', H', J, q⟩ := hs
    exact fin (v := V.non) (u := Value.none) J rfl q
  | brk =>
    obtain ⟨_, _, _, q⟩ := hs
    exact False.elim q
  | cont =>
    obtain ⟨_, _, _, q⟩ := hs
    exact False.elim q

section
variable {P : Program} {w : World} {K : PySem.W.Frag} {mg : Str → Option Value} {base : Heap}
theorem okG {x qual : Str} {st : Stmt} {f : Addr} {fd : FuncData} {N ps : List Str} {k : Nat} {sp : Sp} (F : Fun K x qual st f fd) (S : FnScope N ps (defScope st)) (len : ∀ vs H Q E, sp vs H Q E → vs.length = ps.length)
    (hbody : ∀ (cdv : Value) (A : Around) (outer : List Env) (s : Shared) (H : Hp) (vs : List V) (Q : VK) (E : XK), A.guards = some [] → Room k (A.deeper (envOfC qual (defScope st) s.heap.objs.size f cdv)) → sp vs H Q E →
      ∃ t, PSs (cxOf CX0 P w K mg base N qual (defScope st) f cdv A outer s H E).nox (defBody st) t ∧ t { nx := fun _ H' => Q .non H', rt := Q } (start N vs) H) : FnG P w K mg base CX0 (k + 1) f fd ps sp := by
  obtain ⟨oc, od, kV, doc, pm, an, cdv, ct, osl, rfl, lk, hcd⟩ := F.ex
  refine fn_ofG lk hcd S len fun A outer s H vs Q E hgd hr hsp => ?_
  obtain ⟨t, h, q⟩ := hbody cdv A outer s H vs Q E hgd hr hsp
  exact ⟨t, h.nox, q⟩
end
example (A : Around) (e : Env) (h : A.guards = some []) : (A.deeper e).guards = some [] := h
example (A : Around) (h : A.guards = some []) : (A.in1).guards = some [] := h
example : callerA.guards = some [] := rfl
end SF

namespace SF
open PySem PySem.Spec PyProof.Rows L2
open AutoSeq1 (wpAny_loadPart')

/-! ### // by any divisor but 0 -/
def CDivZ (_ j : Int) : Prop := j ≠ 0 ∧ j.natAbs.log2 < 9000
section
variable {X : Cx}
theorem op_fdivZ : OpR X (binaryOp .FloorDiv) (rI CDivZ fun i j => .int (i.fdiv j)) := opI fun i j _ _ _ _ _ hc q =>
  floordiv_int hc.1 q (.inl (PyProof.noPylong_of_log2 hc.2))
end

section
variable {X : Cx} {CX : CXT} {n : Nat} {C g : Addr} {fd : FuncData} {ps : List Str} {sp : Sp} {E : XK}

/-- an instance's place in the state -/
theorem inst_of {pins : List (Addr × Obj)} {σ : L2.St} {H : Hp} {s : Shared} {a C dx : Addr} {fs : List (Str × V)} (I : Inv X pins σ H s) (e : H a = some (.ins C dx fs)) : ∃ od, PySem.W.InstAt s.heap a (PySem.W.instObj C dx) C (some od) := by
  obtain ⟨mA, O, _⟩ := ins_get I.hok e
  obtain ⟨od, J, _⟩ := O.look
  exact ⟨od, J⟩

/-- x op y, x an instance of the class at C whose own def for op stands at g, y of any kind -/
def rOwnL (K : PySem.W.Frag) (C : Addr) (sp : Sp) (E : XK) : R2 := fun x y H Q => ∃ a dx fs tb, x = .ref a ∧ H a = some (.ins C dx fs) ∧ TyX K H y tb ∧ PySem.W.notFirst K C tb = true ∧ sp [x, y] H Q E
theorem op_ownL {op : CmpOp} (hop : ∀ a b, compareOp op a b = richCompare op a b) (hs : PySem.W.findIn X.K (.ref C) (cmpInfo op).2.1 = some (some (.ref g))) (hf : PySem.W.isFn X.K (.ref g) = true)
    (F : FnOk X.prog X.w X.K X.mg X.base CX n g fd ps sp) (hb : Binds X.K fd ps []) (hr : Room n X.A) (hx : Passes CX X E) : OpR X (compareOp op) (rOwnL X.K C sp E) := by
  intro pins s σ H x y v u Q I rx ry h
  obtain ⟨a, dx, fs, tb, rfl, ha, ty, hn, q⟩ := h
  cases (show v = Value.ref a from rx)
  obtain ⟨od, J⟩ := inst_of I ha
  obtain ⟨P, kt, hP, _⟩ := kit_of I ry ty
  obtain ⟨m, hF⟩ := I.fr
  rw [hop]
  refine PySem.W.cmp_K (op := op) (tb := tb) hr.units0 hF I.ok.mod.kin J (kt.ty _ _ I.kIn hP) hn hs hf ?_
  refine wpAny_mono (run_fn (us := [.ref a, u]) (vs := [.ref a, y]) (dvs := []) (ds := []) F hr hb .nil hx I (.cons rfl (.cons ry .nil)) (by simpa using q)) (fun w s' z => ?_) fun _ _ x => x
  obtain ⟨z', H', I', rz, qz⟩ := z
  exact SlX.cmpback rz ⟨z', H', I', rz, qz⟩

/-- bool of an instance with its own __bool__, as a test -/
def rOwnB (C : Addr) (sp : Sp) (E : XK) : V → Hp → (Bool → Hp → Prop) → Prop := fun x H Q => ∃ a dx fs, x = .ref a ∧ H a = some (.ins C dx fs) ∧ sp [x] H (fun z H' => ∃ b, z = .bl b ∧ Q b H') E
theorem tru_own (hs : PySem.W.findIn X.K (.ref C) "__bool__" = some (some (.ref g))) (hf : PySem.W.isFn X.K (.ref g) = true)
    (F : FnOk X.prog X.w X.K X.mg X.base CX n g fd ps sp) (hb : Binds X.K fd ps []) (hr : Room n X.A) (hx : Passes CX X E) : TruR X (rOwnB C sp E) := by
  intro pins s σ H x v Q I rx h
  obtain ⟨a, dx, fs, rfl, ha, q⟩ := h
  cases (show v = Value.ref a from rx)
  obtain ⟨od, J⟩ := inst_of I ha
  obtain ⟨m, hF⟩ := I.fr
  refine PySem.W.truthy_K hF I.ok.mod.kin J hs hf ?_
  refine wpAny_mono (run_fn (us := [.ref a]) (vs := [.ref a]) (dvs := []) (ds := []) F hr hb .nil hx I (.cons rfl .nil) (by simpa using q)) (fun w s' z => ?_) fun _ _ x => x
  obtain ⟨z', H', I', rz, qz⟩ := z
  rcases qz with ⟨ez, qz⟩ | ⟨ez, qz⟩
  · subst ez
    cases (show w = Value.bool _ from rz)
    exact ⟨H', I', qz⟩
  · subst ez
    cases (show w = Value.bool _ from rz)
    exact ⟨H', I', qz⟩
end

/-! ### != by an own __eq__, and the reflected comparisons -/
section
variable {prog : Program} {w : World} {A : Around} {E : Value → Shared → Prop} {s : Shared} {K : PySem.W.Frag} {x C L f : Addr} {h₀ : Heap} {m : Str → Option Value} {ox : Obj} {od : Option Obj} {b tb : Value}
/-- a special that a class takes from a built-in one, called if bound -/
theorem ifBound_B {M : Model} {name : Str} {id : String} {args : List Value} {Q : Option Value → Shared → Prop} (X : K.In s.heap) (I : PySem.W.InstAt s.heap x ox C od) (hs : PySem.W.findIn K (.ref C) name = some (some (.builtin id)))
    (hb : ∀ self, bindSpecial (.builtin id) self = pure (.builtin id, [self])) (h : wpAny M A (call (.builtin id) (.ref x :: args)) (fun v => Q (some v)) E s) : wpAny M A (callSpecialIfBound? (.ref x) name args) Q E s := by
  simp only [callSpecialIfBound?, bindSpecialIfBound?]
  refine wpAny_holding (wpAny_bind (wpAny_bind (wpAny_bind (I.type.here ((PySem.W.looks_findIn X hs).here ?_)))))
  refine wpAny_bind (wpAny_askSetting (wpAny_ite ?_))
  have fin : wpAny M A (call (.builtin id) ([.ref x] ++ args) >>= fun v => pure (some v)) Q E s := wpAny_bind (wpAny_mono h (fun v s' h' => wpAny_pure h') fun _ _ h' => h')
  split
  · exact wpAny_bind ((PySem.W.Looks.of_pure (hb _)).here (wpAny_pure (by exact fin)))
  · exact wpAny_tryCatch (wpAny_bind ((PySem.W.Looks.of_pure (hb _)).here (wpAny_pure (by exact fin))))

/-- what an own == must give for != : a truth value -/
def NeBack (Q : Value → Shared → Prop) (v : Value) (s' : Shared) : Prop := ∃ k, v = .bool k ∧ Q (.bool (!k)) s'
theorem objNe_own {Q : Value → Shared → Prop} (hu : A.in1.units < cLine) (X : K.In s.heap) (I : PySem.W.InstAt s.heap x ox C od) (hm : PySem.W.mroIn K C (.type "object") = some true)
    (hs : PySem.W.findIn K (.ref C) "__eq__" = some (some (.ref f))) (hf : PySem.W.isFn K (.ref f) = true) (h : wpAny (model prog w) A.in1 (call (.ref f) [.ref x, b]) (NeBack Q) E s) :
    wpAny (model prog w) A (call (.builtin "object.__ne__") [.ref x, b]) Q E s := by
  refine wpAny_call (codeAny_call_builtin PySem.F.cmp_object.ne.plain PySem.F.cmpEntry_ne (PySem.W.check_slot (i := "object.__ne__") (owner := "object") (n := "__ne__") (by decide +kernel) (by decide +kernel) (I.type.andThen (PySem.W.looks_mroIn X hm)) (PySem.F.cmpArgs_ne _ _) ?_))
  unfold Builtin.«object.__ne__»
  refine wpAny_bind (m := slotArgs "__ne__" 1 _) (wpAny_pure ?_)
  refine wpAny_bind (m := cRoomFor _ _) (wpAny_cRoomFor hu ?_)
  refine wpAny_bind (m := callSpecialIfBound? (.ref x) (Str.ofString "__eq__") _) (PySem.W.ifBound_K X I hs hf (wpAny_mono h (fun r s' hq => ?_) fun _ _ y => y))
  obtain ⟨k, rfl, hq⟩ := hq
  exact wpAny_bind (wpAny_truthy_bool (wpAny_pure hq))
theorem ne_K {Q : Value → Shared → Prop} (hu : A.in1.units < cLine) (X : K.In s.heap) (I : PySem.W.InstAt s.heap x ox C od) (hb : PySem.W.Looks (model prog w) s.heap (typeOf b) tb) (hn : PySem.W.notFirst K C tb = true)
    (hne : PySem.W.findIn K (.ref C) "__ne__" = some (some (.builtin "object.__ne__"))) (hm : PySem.W.mroIn K C (.type "object") = some true)
    (hs : PySem.W.findIn K (.ref C) "__eq__" = some (some (.ref f))) (hf : PySem.W.isFn K (.ref f) = true)
    (h : wpAny (model prog w) A.in1 (call (.ref f) [.ref x, b]) (NeBack Q) E s) : wpAny (model prog w) A (richCompare .NotEq (.ref x) b) Q E s := by
  have one : wpAny (model prog w) A (tryCompare (.ref x) (cmpInfo .NotEq).2.1 b) (fun r s' => ∃ v, r = some v ∧ Q v s') E s := by
    unfold tryCompare
    refine wpAny_bind (ifBound_B X I hne PySem.F.cmp_object.ne.bind (objNe_own hu X I hm hs hf (wpAny_mono h (fun v s' hv => ?_) fun _ _ e => e)))
    obtain ⟨k, rfl, hq⟩ := hv
    exact ⟨k, rfl, wpAny_pure ⟨_, rfl, hq⟩⟩
  unfold richCompare
  simp only [oneThing_ref]
  refine wpAny_holding (wpAny_bind (wpAny_cRoomFor (Nat.lt_of_succ_lt hu) ?_))
  refine wpAny_bind (I.type.here (wpAny_bind (hb.here ?_)))
  split
  · rename_i q
    have e : PySem.W.subIn K tb (.ref C) = some false := by
      rcases Bool.or_eq_true_iff.mp hn with e | e
      · rw [beq_iff_eq.mp e] at q; simp at q
      · exact beq_iff_eq.mp e
    refine wpAny_bind ((PySem.W.looks_subIn X e).here ?_)
    simp only [Bool.false_eq_true, if_false]
    refine wpAny_bind (wpAny_mono one (fun r s' z => ?_) fun _ _ e => e)
    obtain ⟨v, rfl, hq⟩ := z
    exact wpAny_pure hq
  · refine wpAny_bind (wpAny_pure ?_)
    simp only [Bool.false_eq_true, if_false]
    refine wpAny_bind (wpAny_mono one (fun r s' z => ?_) fun _ _ e => e)
    obtain ⟨v, rfl, hq⟩ := z
    exact wpAny_pure hq
end
/-! ### the other side -/
section
variable {prog : Program} {w : World} {A : Around} {E : Value → Shared → Prop} {s : Shared} {K : PySem.W.Frag} {x C L f : Addr} {h₀ : Heap} {m : Str → Option Value} {ox : Obj} {od : Option Obj} {a tb : Value}
/-- a op x, where a (of the built-in type T) declines, and the instance x answers -/
theorem cmp_KR {op : CmpOp} {T : String} {Q : Value → Shared → Prop} (hu : A.units < cLine) (h1 : oneThing? op a (.ref x) = none) (ha : PySem.W.Looks (model prog w) s.heap (typeOf a) (.type T)) (X : K.In s.heap) (I : PySem.W.InstAt s.heap x ox C od)
    (hsub : PySem.W.subIn K (.ref C) (.type T) = some false)
    (hdec : ∀ (E : Value → Shared → Prop) (R : Option Value → Shared → Prop), R none s → wpAny (model prog w) A (tryCompare a (cmpInfo op).2.1 (.ref x)) R E s)
    (hr : wpAny (model prog w) A (tryCompare (.ref x) (cmpInfo op).2.2 a) (fun r s' => ∃ v, r = some v ∧ Q v s') E s) : wpAny (model prog w) A (richCompare op a (.ref x)) Q E s := by
  unfold richCompare
  simp only [h1]
  refine wpAny_holding (wpAny_bind (wpAny_cRoomFor hu ?_))
  refine wpAny_bind (ha.here (wpAny_bind (I.type.here ?_)))
  have ne : (Value.type T != Value.ref C) = true := by simp [bne]
  simp only [ne, if_true]
  refine wpAny_bind ((PySem.W.looks_subIn X hsub).here ?_)
  simp only [Bool.false_eq_true, if_false, Bool.not_false, if_true]
  refine wpAny_bind (hdec _ _ ?_)
  refine wpAny_bind (wpAny_mono hr (fun r s' z => ?_) fun _ _ e => e)
  obtain ⟨v, rfl, hq⟩ := z
  exact wpAny_pure hq
end
end SF

namespace SF
open PySem PySem.Spec PyProof.Rows L2
open AutoSeq1 (wpAny_loadPart')
open PySem.SeqAt

theorem int_eq_decl (b : Int) (u : Tok) (l C dx : Addr) :
    Meets (Builtin.«int.__eq__» ⟨[.int b u, .ref l], []⟩) (fun _ R s => s.heap.get? l = some (PySem.W.instObj C dx) ∧ R (.ok (.ret .notImplemented)) s) :=
  .of_wp fun prog w A R s h => by obtain ⟨hp, g, d, tk, os⟩ := s; obtain ⟨hl, h⟩ := h; wp_walk using wpAny_loadPart' hl, wpAny_load hl; exact ⟨_, rfl, h⟩
theorem int_ne_decl (b : Int) (u : Tok) (l C dx : Addr) :
    Meets (Builtin.«int.__ne__» ⟨[.int b u, .ref l], []⟩) (fun _ R s => s.heap.get? l = some (PySem.W.instObj C dx) ∧ R (.ok (.ret .notImplemented)) s) :=
  .of_wp fun prog w A R s h => by obtain ⟨hp, g, d, tk, os⟩ := s; obtain ⟨hl, h⟩ := h; wp_walk using wpAny_loadPart' hl, wpAny_load hl; exact ⟨_, rfl, h⟩
theorem bool_eq_decl (b : Bool) (l C dx : Addr) :
    Meets (Builtin.«int.__eq__» ⟨[.bool b, .ref l], []⟩) (fun _ R s => s.heap.get? l = some (PySem.W.instObj C dx) ∧ R (.ok (.ret .notImplemented)) s) :=
  .of_wp fun prog w A R s h => by obtain ⟨hp, g, d, tk, os⟩ := s; obtain ⟨hl, h⟩ := h; wp_walk using wpAny_loadPart' hl, wpAny_load hl; exact ⟨_, rfl, h⟩
theorem str_eq_decl (b : Str) (u : Tok) (l C dx : Addr) :
    Meets (Builtin.«str.__eq__» ⟨[.str b u, .ref l], []⟩) (fun _ R s => s.heap.get? l = some (PySem.W.instObj C dx) ∧ R (.ok (.ret .notImplemented)) s) :=
  .of_wp fun prog w A R s h => by obtain ⟨hp, g, d, tk, os⟩ := s; obtain ⟨hl, h⟩ := h; wp_walk using wpAny_loadPart' hl, wpAny_load hl; exact ⟨_, rfl, h⟩

/-- a list, a tuple, a dict: its __eq__ asks whether the other one is of its kind -/
theorem ref_isInst {M : Model} {A : Around} {E : Value → Shared → Prop} {s : Shared} {K : PySem.W.Frag} {x C : Addr} {ox : Obj} {od : Option Obj} {T : String} {Q : Bool → Shared → Prop}
    (X : K.In s.heap) (I : PySem.W.InstAt s.heap x ox C od) (hsub : PySem.W.subIn K (.ref C) (.type T) = some false) (q : Q false s) : wpAny M A (isInstance (.ref x) (.type T)) Q E s := by
  unfold isInstance
  exact wpAny_bind (I.type.here ((PySem.W.looks_subIn X hsub).here q))
section
variable {prog : Program} {w : World} {A : Around} {R : Result → Shared → Prop} {s : Shared} {K : PySem.W.Frag} {x C l : Addr} {ox : Obj} {od : Option Obj}
theorem list_eq_declK (X : K.In s.heap) (I : PySem.W.InstAt s.heap x ox C od) (hsub : PySem.W.subIn K (.ref C) (.type "list") = some false) (q : R (.ok (.ret .notImplemented)) s) :
    wpAny (model prog w) A.in1 (Builtin.«list.__eq__» ⟨[.ref l, .ref x], []⟩) (GQ.FinOf prog w A R) (fun e s' => R (.error e) s') s := by
  unfold Builtin.«list.__eq__»
  show wpAny _ _ (do
    let r ← isInstance (.ref x) (.type "list")
    _) _ _ s
  refine wpAny_bind (ref_isInst X I hsub ?_)
  exact wpAny_pure q
theorem tup_eq_declK (X : K.In s.heap) (I : PySem.W.InstAt s.heap x ox C od) (hsub : PySem.W.subIn K (.ref C) (.type "tuple") = some false) (q : R (.ok (.ret .notImplemented)) s) :
    wpAny (model prog w) A.in1 (Builtin.«tuple.__eq__» ⟨[.ref l, .ref x], []⟩) (GQ.FinOf prog w A R) (fun e s' => R (.error e) s') s := by
  unfold Builtin.«tuple.__eq__»
  show wpAny _ _ (do
    let r ← isInstance (.ref x) (.type "tuple")
    _) _ _ s
  refine wpAny_bind (ref_isInst X I hsub ?_)
  exact wpAny_pure q
theorem dict_eq_declK (X : K.In s.heap) (I : PySem.W.InstAt s.heap x ox C od) (hsub : PySem.W.subIn K (.ref C) (.type "dict") = some false) (q : R (.ok (.ret .notImplemented)) s) :
    wpAny (model prog w) A.in1 (Builtin.«dict.__eq__» ⟨[.ref l, .ref x], []⟩) (GQ.FinOf prog w A R) (fun e s' => R (.error e) s') s := by
  unfold Builtin.«dict.__eq__»
  show wpAny _ _ (do
    let r ← isInstance (.ref x) (.type "dict")
    _) _ _ s
  refine wpAny_bind (ref_isInst X I hsub ?_)
  exact wpAny_bind (wpAny_rule (wpAny_pure q))
end

section
variable {X : Cx} {CX : CXT} {n : Nat} {g : Addr} {fd : FuncData} {ps : List Str} {sp : Sp} {E : XK}
/-- a def run from within a builtin's body -/
theorem run_fnA {A : Around} {pins : List (Addr × Obj)} {σ : L2.St} {H : Hp} {s : Shared} {Q : VK} {us : List Value} {vs : List V} (F : FnOk X.prog X.w X.K X.mg X.base CX n g fd ps sp) (hr : Room n A) (hA : A.frames = X.A.frames) (hb : Binds X.K fd ps []) (hx : Passes CX X E)
    (I : Inv X pins σ H s) (r : Vals vs us) (h : sp vs H Q E) : wpAny (model X.prog X.w) A (call (.ref g) us) (EP X pins σ Q) X.xe s := by
  have e0 : Env0 X.prog X.w X.K X.mg X.base A X.stack s H := by
    have e := I.env0
    exact ⟨hA.trans e.frames, e.mod, e.bs, e.bsz, e.funs, e.frf, e.hok, e.bare⟩
  have hl : us.length = ps.length := r.length.symm.trans (F.len _ _ _ _ h)
  have hbb := hb s us I.kIn (by simpa using hl)
  rw [List.append_nil] at hbb
  refine wpAny_call (codeAny_mono (F.run A X.stack s H ⟨us, []⟩ us vs Q E hr e0 hbb r h) fun r s' hq => ?_)
  cases r with
  | error e => exact hx pins σ H s e s' I hq
  | ok fl =>
    cases fl with
    | ret u => exact I.after hq
    | next => exact False.elim hq
    | brk => exact False.elim hq
    | cont => exact False.elim hq
end

/-- the class at C stands below none of the built-in types met here -/
structure NoSub (K : PySem.W.Frag) (C : Addr) : Prop where
  all : ∀ T ∈ ["int", "bool", "str", "NoneType", "list", "tuple", "dict"], PySem.W.subIn K (.ref C) (.type T) = some false
/-- values of the built-in kinds whose == declines an own instance -/
inductive Dec (H : Hp) : V → String → Prop where
  | non : Dec H .non "NoneType"
  | bl (b : Bool) : Dec H (.bl b) "bool"
  | int (i : Int) : Dec H (.int i) "int"
  | str (x : Str) : Dec H (.str x) "str"
  | lst {a : Addr} {xs : List V} (e : H a = some (.lst xs)) : Dec H (.ref a) "list"
  | tup {a : Addr} {xs : List V} (e : H a = some (.tup xs)) : Dec H (.ref a) "tuple"
  | dK {a : Addr} {kvs : List (Key × V)} (e : H a = some (.dK kvs)) : Dec H (.ref a) "dict"
theorem Dec.mem {H : Hp} {x : V} {T : String} (d : Dec H x T) : T ∈ ["int", "bool", "str", "NoneType", "list", "tuple", "dict"] := by
  cases d <;> simp
theorem Dec.typ {K : PySem.W.Frag} {H : Hp} {x : V} {T : String} (d : Dec H x T) : TyX K H x (.type T) := by
  cases d with
  | non => exact .base .non
  | bl b => exact .base (.bl b)
  | int i => exact .base (.int i)
  | str y => exact .base (.str y)
  | lst e => exact .base (.lst e)
  | tup e => exact .base (.tup e)
  | dK e => exact .base (.dK e)
section
variable {X : Cx} {CX : CXT} {n : Nat} {C g : Addr} {fd : FuncData} {ps : List Str} {sp : Sp} {E : XK}
theorem dec_try {pins : List (Addr × Obj)} {σ : L2.St} {H : Hp} {s : Shared} {x : V} {v : Value} {T : String} {a dx : Addr} {od : Option Obj} (I : Inv X pins σ H s) (r : RelV x v) (d : Dec H x T)
    (J : PySem.W.InstAt s.heap a (PySem.W.instObj C dx) C od) (hsub : PySem.W.subIn X.K (.ref C) (.type T) = some false) {A : Around} {E : Value → Shared → Prop} {R : Option Value → Shared → Prop} (q : R none s) :
    wpAny (model X.prog X.w) A (tryCompare v "__eq__" (.ref a)) R E s := by
  cases d with
  | non =>
    cases (show v = Value.none from r)
    exact wpAny_tryCompare_declines (T := "NoneType") rfl F.slot_NoneType_eq (call_gives F.slot_NoneType_eq rfl F.entry_NoneType_eq (F.args_NoneType_eq_2 _ _) (NoneType___eq___none_ref_0 a) ⟨rfl, q⟩)
  | bl b =>
    cases (show v = Value.bool b from r)
    exact wpAny_tryCompare_declines (T := "bool") rfl F.slot_bool_eq (call_meets F.slot_bool_eq rfl F.entry_int_eq (F.args_int_eq_2 _ _) (bool_eq_decl b a C dx) ⟨J.at_, rfl, q⟩)
  | int i =>
    obtain ⟨t, e⟩ := (show ∃ t, v = Value.int i t from r)
    cases e
    exact wpAny_tryCompare_declines (typeIs_int s i t) F.slot_int_eq (call_meets F.slot_int_eq (typeIs_int s i t) F.entry_int_eq (F.args_int_eq_2 _ _) (int_eq_decl i t a C dx) ⟨J.at_, rfl, q⟩)
  | str y =>
    obtain ⟨t, e⟩ := (show ∃ t, v = Value.str y t from r)
    cases e
    exact wpAny_tryCompare_declines (typeIs_str s y t) F.slot_str_eq (call_meets F.slot_str_eq (typeIs_str s y t) F.entry_str_eq (F.args_str_eq_2 _ _) (str_eq_decl y t a C dx) ⟨J.at_, rfl, q⟩)
  | @lst b xs e =>
    cases (show v = Value.ref b from r)
    obtain ⟨_, its, k, _, h1⟩ := (show ObjOk X.prog X.w H s.heap b (.lst xs) from I.hok b _ e)
    exact wpAny_tryCompare_declines ⟨_, h1, rfl⟩ F.slot_list_eq (GQ.call_here F.slot_list_eq ⟨_, h1, rfl⟩ F.entry_list_eq (F.args_list_eq_2 _ _) (list_eq_declK I.kIn J hsub ⟨rfl, q⟩))
  | @tup b xs e =>
    cases (show v = Value.ref b from r)
    obtain ⟨_, its, _, o, h1, h2, _⟩ := (show ObjOk X.prog X.w H s.heap b (.tup xs) from I.hok b _ e)
    exact wpAny_tryCompare_declines ⟨_, h1, h2⟩ F.slot_tuple_eq (GQ.call_here F.slot_tuple_eq ⟨_, h1, h2⟩ F.entry_tuple_eq (F.args_tuple_eq_2 _ _) (tup_eq_declK I.kIn J hsub ⟨rfl, q⟩))
  | @dK b kvs e =>
    cases (show v = Value.ref b from r)
    obtain ⟨_, _, vs, _, o, es, ep, h1, h2, _⟩ := (show ObjOk X.prog X.w H s.heap b (.dK kvs) from I.hok b _ e)
    exact wpAny_tryCompare_declines ⟨_, h1, h2.1⟩ F.slot_dict_eq (GQ.call_here F.slot_dict_eq ⟨_, h1, h2.1⟩ F.entry_dict_eq (F.args_dict_eq_2 _ _) (dict_eq_declK I.kIn J hsub ⟨rfl, q⟩))
theorem dec_one {H : Hp} {x : V} {v : Value} {T : String} (r : RelV x v) (d : Dec H x T) (op : CmpOp) (u : Value) : oneThing? op v u = none := by
  cases d with
  | non => cases (show v = Value.none from r); rfl
  | bl b => cases (show v = Value.bool b from r); rfl
  | int i => obtain ⟨t, e⟩ := (show ∃ t, v = Value.int i t from r); cases e; rfl
  | str y => obtain ⟨t, e⟩ := (show ∃ t, v = Value.str y t from r); cases e; rfl
  | @lst b xs e => cases (show v = Value.ref b from r); rfl
  | @tup b xs e => cases (show v = Value.ref b from r); rfl
  | @dK b xs e => cases (show v = Value.ref b from r); rfl

/-- x == y, x of a built-in kind, y an instance of the class at C with its own == at g -/
def rOwnR (C : Addr) (sp : Sp) (E : XK) : R2 := fun x y H Q => ∃ T a dx fs, y = .ref a ∧ H a = some (.ins C dx fs) ∧ Dec H x T ∧ sp [y, x] H Q E
theorem op_ownR (hs : PySem.W.findIn X.K (.ref C) "__eq__" = some (some (.ref g))) (hf : PySem.W.isFn X.K (.ref g) = true) (hN : NoSub X.K C)
    (F : FnOk X.prog X.w X.K X.mg X.base CX n g fd ps sp) (hb : Binds X.K fd ps []) (hr : Room n X.A) (hx : Passes CX X E) : OpR X (compareOp .Eq) (rOwnR C sp E) := by
  intro pins s σ H x y v u Q I rx ry h
  obtain ⟨T, a, dx, fs, rfl, ha, d, q⟩ := h
  cases (show u = Value.ref a from ry)
  obtain ⟨od, J⟩ := inst_of I ha
  obtain ⟨P, kt, hP, _⟩ := kit_of I rx d.typ
  have hsub := hN.all T d.mem
  show wpAny (model X.prog X.w) X.A (richCompare .Eq v (.ref a)) (EP X pins σ Q) X.xe s
  refine cmp_KR (op := .Eq) (T := T) hr.units0 (dec_one rx d _ _) (kt.ty _ _ I.kIn hP) I.kIn J hsub (fun E R hR => dec_try I rx d J hsub hR) ?_
  unfold tryCompare
  refine wpAny_bind (PySem.W.ifBound_K I.kIn J hs hf ?_)
  refine wpAny_mono (run_fn (us := [.ref a, v]) (vs := [.ref a, x]) (dvs := []) (ds := []) F hr hb .nil hx I (.cons rfl (.cons rx .nil)) (by simpa using q)) (fun w s' z => ?_) fun _ _ x => x
  obtain ⟨z', H', I', rz, qz⟩ := z
  have cb : PySem.W.CmpBack (fun w s' => EP X pins σ Q w s') w s' := SlX.cmpback rz ⟨z', H', I', rz, qz⟩
  cases w <;> first | exact cb.elim | exact wpAny_pure ⟨_, rfl, cb⟩

/-- what the own == gives, for != -/
def neQ (Q : VK) : VK := fun z H' => ∃ k, z = .bl k ∧ Q (.bl (!k)) H'
/-- x != y by the own == of x, an instance -/
def rOwnNeL (K : PySem.W.Frag) (C : Addr) (sp : Sp) (E : XK) : R2 := fun x y H Q => ∃ a dx fs tb, x = .ref a ∧ H a = some (.ins C dx fs) ∧ TyX K H y tb ∧ PySem.W.notFirst K C tb = true ∧ sp [x, y] H (neQ Q) E
theorem op_ownNeL (hne : PySem.W.findIn X.K (.ref C) "__ne__" = some (some (.builtin "object.__ne__"))) (hm : PySem.W.mroIn X.K C (.type "object") = some true)
    (hs : PySem.W.findIn X.K (.ref C) "__eq__" = some (some (.ref g))) (hf : PySem.W.isFn X.K (.ref g) = true)
    (F : FnOk X.prog X.w X.K X.mg X.base CX n g fd ps sp) (hb : Binds X.K fd ps []) (hr : Room (n + 1) X.A) (hx : Passes CX X E) : OpR X (compareOp .NotEq) (rOwnNeL X.K C sp E) := by
  intro pins s σ H x y v u Q I rx ry h
  obtain ⟨a, dx, fs, tb, rfl, ha, ty, hn, q⟩ := h
  cases (show v = Value.ref a from rx)
  obtain ⟨od, J⟩ := inst_of I ha
  obtain ⟨P, kt, hP, _⟩ := kit_of I ry ty
  show wpAny (model X.prog X.w) X.A (richCompare .NotEq (.ref a) u) (EP X pins σ Q) X.xe s
  refine ne_K (tb := tb) hr.in1.units0 I.kIn J (kt.ty _ _ I.kIn hP) hn hne hm hs hf ?_
  refine wpAny_mono (run_fnA (us := [.ref a, u]) (vs := [.ref a, y]) F hr.in1 rfl hb hx I (.cons rfl (.cons ry .nil)) q) (fun w s' z => ?_) fun _ _ x => x
  obtain ⟨z', H', I', rz, qz⟩ := z
  obtain ⟨k, ez, qz⟩ := qz
  subst ez
  cases (show w = Value.bool _ from rz)
  exact ⟨_, rfl, .bl _, H', I', rfl, qz⟩

/-- i != y, i an int, y an instance of the class at C -/
def rOwnNeR (C : Addr) (sp : Sp) (E : XK) : R2 := fun x y H Q => ∃ i a dx fs, x = .int i ∧ y = .ref a ∧ H a = some (.ins C dx fs) ∧ sp [y, x] H (neQ Q) E
theorem op_ownNeR (hne : PySem.W.findIn X.K (.ref C) "__ne__" = some (some (.builtin "object.__ne__"))) (hm : PySem.W.mroIn X.K C (.type "object") = some true)
    (hs : PySem.W.findIn X.K (.ref C) "__eq__" = some (some (.ref g))) (hf : PySem.W.isFn X.K (.ref g) = true) (hN : NoSub X.K C)
    (F : FnOk X.prog X.w X.K X.mg X.base CX n g fd ps sp) (hb : Binds X.K fd ps []) (hr : Room (n + 1) X.A) (hx : Passes CX X E) : OpR X (compareOp .NotEq) (rOwnNeR C sp E) := by
  intro pins s σ H x y v u Q I rx ry h
  obtain ⟨i, a, dx, fs, rfl, rfl, ha, q⟩ := h
  cases (show u = Value.ref a from ry)
  obtain ⟨t, e⟩ := (show ∃ t, v = Value.int i t from rx)
  cases e
  obtain ⟨od, J⟩ := inst_of I ha
  show wpAny (model X.prog X.w) X.A (richCompare .NotEq (.int i t) (.ref a)) (EP X pins σ Q) X.xe s
  refine cmp_KR (op := .NotEq) (T := "int") hr.units0 rfl (PySem.W.Looks.of_pure rfl) I.kIn J (hN.all _ (by simp)) (fun E R hR => ?_) ?_
  · exact wpAny_tryCompare_declines (typeIs_int s i t) PySem.F.slot_int_ne (call_meets PySem.F.slot_int_ne (typeIs_int s i t) PySem.F.entry_int_ne (PySem.F.args_int_ne_2 _ _) (int_ne_decl i t a C _) ⟨J.at_, rfl, hR⟩)
  · unfold tryCompare
    refine wpAny_bind (ifBound_B I.kIn J hne PySem.F.cmp_object.ne.bind (objNe_own hr.in1.units0 I.kIn J hm hs hf ?_))
    refine wpAny_mono (run_fnA (us := [.ref a, .int i t]) (vs := [.ref a, .int i]) F hr.in1 rfl hb hx I (.cons rfl (.cons rx .nil)) q) (fun w s' z => ?_) fun _ _ x => x
    obtain ⟨z', H', I', rz, qz⟩ := z
    obtain ⟨k, ez, qz⟩ := qz
    subst ez
    cases (show w = Value.bool _ from rz)
    exact ⟨k, rfl, wpAny_pure ⟨_, rfl, .bl _, H', I', rfl, qz⟩⟩

/-- str(x), repr(x), bool(x) of an instance by its own defs -/
def rOwnStr (C : Addr) (sp : Sp) (E : XK) : List V → Hp → VK → Prop := fun xs H Q => ∃ a dx fs, xs = [V.ref a] ∧ H a = some (.ins C dx fs) ∧ sp [.ref a] H (fun z H' => ∃ y, z = .str y ∧ Q z H') E
theorem call_reprOwn (hs : PySem.W.findIn X.K (.ref C) "__repr__" = some (some (.ref g))) (hf : PySem.W.isFn X.K (.ref g) = true)
    (F : FnOk X.prog X.w X.K X.mg X.base CX n g fd ps sp) (hb : Binds X.K fd ps []) (hr : Room (n + 1) X.A) (hx : Passes CX X E) : CallR X (.builtin "repr") (rOwnStr C sp E) := by
  intro pins s σ H xs us Q I r h
  obtain ⟨a, dx, fs, rfl, ha, q⟩ := h
  obtain ⟨u, rfl, ru⟩ := r.one
  cases (show u = Value.ref a from ru)
  obtain ⟨od, J⟩ := inst_of I ha
  obtain ⟨m, hF⟩ := I.fr
  refine PySem.W.repr_K hr.in1.units0 hF I.ok.mod.kin J hs hf ?_
  refine wpAny_mono (run_fnA (us := [.ref a]) (vs := [.ref a]) F hr.in1 rfl hb hx I (.cons rfl .nil) q) (fun w s' z => ?_) fun _ _ x => x
  obtain ⟨z', H', I', rz, qz⟩ := z
  obtain ⟨y, ez, qz⟩ := qz
  subst ez
  obtain ⟨t, e⟩ := (show ∃ t, w = Value.str y t from rz)
  cases e
  exact ⟨.str y, H', I', ⟨t, rfl⟩, qz⟩
end
end SF

namespace SFx
open PySem PySem.Spec PyProof.Rows
section
variable {prog : Program} {w : World} {A : Around} {E : Value → Shared → Prop} {s : Shared} {K : PySem.W.Frag} {x C f : Addr} {ox : Obj} {od : Option Obj}
open Builtin Builtin.Str in
/-- str(x) by an own __str__ -/
theorem str_own {Q : Value → Shared → Prop} (hu : A.in1.in1.units < cLine) (X : K.In s.heap) (I : PySem.W.InstAt s.heap x ox C od) (hs : PySem.W.findIn K (.ref C) "__str__" = some (some (.ref f)))
    (hf : PySem.W.isFn K (.ref f) = true) (h : wpAny (model prog w) A.in1.in1 (call (.ref f) [.ref x]) (PySem.W.StrBack Q) E s) : wpAny (model prog w) A (call (.type "str") [.ref x]) Q E s := by
  refine callType_codes (T := "str") (Bi := Builtin.«object.__init__») (Q₁ := fun r s₁ => ∃ y u, r = .str y u ∧ Q r s₁) PySem.F.called_str (PySem.F.typeCall_str_1 _) PySem.F.entry_object_init ?_ ?_
  · refine codeAny_of_tree ?_
    show wpAny _ A.in1.in1 (do checkBuiltinCall "str.__new__" ⟨[.type "str", .ref x], []⟩; again (.builtin "str.__new__" ⟨[.type "str", .ref x], []⟩)) _ _ s
    refine wpAny_bind (wpAny_of_eq (PySem.F.newCall_str_1 _) (wpAny_pure ⟨plainId_quiet (by decide +kernel) _, codeAny_builtin PySem.F.entry_str_new ?_⟩))
    rw [Around.under_plainId (by decide +kernel) _]
    rw [str_new_tree]
    refine wpAny_bind (wpAny_pure ?_)
    refine wpAny_bind (wpAny_of_eq isSubtype_str_str ?_)
    have key : wpAny (model prog w) A.in1.in1 (PySem.Builtin.Str.strOf (.ref x)) (fun r s₁ => ∃ y u, r = .str y u ∧ Q r s₁) E s := by
      unfold PySem.Builtin.Str.strOf
      rw [show isExactStr (.ref x) = false from rfl]
      refine wpAny_bind (m := cRoomFor _ _) (wpAny_cRoomFor hu ?_)
      refine wpAny_bind (m := callSpecial? (.ref x) (Str.ofString "__str__")) (PySem.W.special_fn X I hs (beq_iff_eq.mp hf) (wpAny_mono h (fun r s' z => ?_) fun _ _ y => y))
      cases r <;> first | exact z.elim | exact wpAny_pure ⟨_, _, rfl, z⟩
    exact wpAny_bind (wpAny_mono key (fun r s₁ hr => wpAny_pure hr) fun _ _ y => y)
  · rintro obj s₁ ⟨y, u, rfl, hq⟩
    exact ⟨typeIs_str _ _ _, PySem.F.args_object_init_2 _ _, object_init_meets PySem.F.called_str.init.lookup PySem.F.called_str.made (by decide) prog w A.in1 _ s₁ ⟨typeIs_str _ _ _, rfl, hq⟩⟩

theorem meets_bool_own : MeetsIn prog w (Builtin.«bool.__new__» ⟨[.type "bool", .ref x], []⟩)
    (fun A R s => wpAny (model prog w) A.in1 (truthy (.ref x)) (fun b s' => R (.ok (.ret (.bool b))) s') (fun e s' => R (.error e) s') s) :=
  MeetsIn.of_wp fun A R s hs => by
    have f1 := PySem.F.conv_sub_bool
    have hs' : wpAny (model prog w) A.in1 (truthy (.ref x)) (fun b s' => wpAny (model prog w) A.in1 (ret (.bool b)) (fun fin s' => ∃ v, fin = .done (.ret v) ∧ R (.ok (.ret v)) s') (fun e s' => R (.error e) s') s') (fun e s' => R (.error e) s') s :=
      wpAny_mono hs (fun b s' q => wpAny_pure ⟨_, rfl, q⟩) fun _ _ e => e
    unfold Builtin.«bool.__new__»
    repeat (any_goals (first | assumption | exact wpAny_bind hs' | (with_reducible refine wpAny_bind hs' ) | wp_step))
theorem bool_own {Q : Value → Shared → Prop} (h : wpAny (model prog w) A.in1.in1 (truthy (.ref x)) (fun b s' => Q (.bool b) s') E s) : wpAny (model prog w) A (call (.type "bool") [.ref x]) Q E s :=
  callType_newIn PySem.F.called_bool PySem.F.newNe_bool (PySem.F.typeCall_bool_1 _) (PySem.F.newCall_bool_1 _) (fun obj => PySem.F.args_object_init_2 obj _) PySem.F.entry_bool_new meets_bool_own
    (wpAny_mono h (fun b s' q => ⟨rfl, q⟩) fun _ _ e => e)
end
end SFx
namespace SF
open PySem PySem.Spec PyProof.Rows L2
section
variable {X : Cx} {CX : CXT} {n : Nat} {C g : Addr} {fd : FuncData} {ps : List Str} {sp : Sp} {E : XK}
theorem call_strOwn (hs : PySem.W.findIn X.K (.ref C) "__str__" = some (some (.ref g))) (hf : PySem.W.isFn X.K (.ref g) = true)
    (F : FnOk X.prog X.w X.K X.mg X.base CX n g fd ps sp) (hb : Binds X.K fd ps []) (hr : Room (n + 2) X.A) (hx : Passes CX X E) : CallR X (.type "str") (rOwnStr C sp E) := by
  intro pins s σ H xs us Q I r h
  obtain ⟨a, dx, fs, rfl, ha, q⟩ := h
  obtain ⟨u, rfl, ru⟩ := r.one
  cases (show u = Value.ref a from ru)
  obtain ⟨od, J⟩ := inst_of I ha
  have hr2 : Room n X.A.in1.in1 := (show Room (n + 1) X.A.in1 from Room.in1 hr).in1
  refine SFx.str_own hr2.units0 I.kIn J hs hf ?_
  refine wpAny_mono (run_fnA (us := [.ref a]) (vs := [.ref a]) F hr2 rfl hb hx I (.cons rfl .nil) q) (fun w s' z => ?_) fun _ _ x => x
  obtain ⟨z', H', I', rz, qz⟩ := z
  obtain ⟨y, ez, qz⟩ := qz
  subst ez
  obtain ⟨t, e⟩ := (show ∃ t, w = Value.str y t from rz)
  cases e
  exact ⟨.str y, H', I', ⟨t, rfl⟩, qz⟩
def rOwnBool (C : Addr) (sp : Sp) (E : XK) : List V → Hp → VK → Prop := fun xs H Q => ∃ a dx fs, xs = [V.ref a] ∧ H a = some (.ins C dx fs) ∧ sp [.ref a] H (fun z H' => ∃ k, z = .bl k ∧ Q (.bl k) H') E
theorem call_boolOwn (hs : PySem.W.findIn X.K (.ref C) "__bool__" = some (some (.ref g))) (hf : PySem.W.isFn X.K (.ref g) = true)
    (F : FnOk X.prog X.w X.K X.mg X.base CX n g fd ps sp) (hb : Binds X.K fd ps []) (hr : Room (n + 2) X.A) (hx : Passes CX X E) : CallR X (.type "bool") (rOwnBool C sp E) := by
  intro pins s σ H xs us Q I r h
  obtain ⟨a, dx, fs, rfl, ha, q⟩ := h
  obtain ⟨u, rfl, ru⟩ := r.one
  cases (show u = Value.ref a from ru)
  obtain ⟨od, J⟩ := inst_of I ha
  obtain ⟨m, hF⟩ := I.fr
  have hr2 : Room n X.A.in1.in1 := (show Room (n + 1) X.A.in1 from Room.in1 hr).in1
  refine SFx.bool_own (PySem.W.truthy_K hF I.ok.mod.kin J hs hf ?_)
  refine wpAny_mono (run_fnA (us := [.ref a]) (vs := [.ref a]) F hr2 rfl hb hx I (.cons rfl .nil) q) (fun w s' z => ?_) fun _ _ x => x
  obtain ⟨z', H', I', rz, qz⟩ := z
  obtain ⟨k, ez, qz⟩ := qz
  subst ez
  cases (show w = Value.bool k from rz)
  exact ⟨.bl k, H', I', rfl, qz⟩
end

/-! ### repr of a list of flat things -/
def flatD : V → Option PyData
  | .non => some .none
  | .bl b => some (.bool b)
  | .int i => if i.natAbs.log2 < 1920 then some (.int i) else none
  | .str x => some (.str x)
  | _ => none
def flatDs : List V → Option (List PyData)
  | [] => some []
  | x :: xs => match flatD x, flatDs xs with
    | some d, some ds => some (d :: ds)
    | _, _ => none
theorem flat_reads {h : Heap} {x : V} {v : Value} {d : PyData} (r : RelV x v) (e : flatD x = some d) : Reads h v d [] ∧ d.showable = true ∧ d.depth = 0 ∧ d.hasDict = false := by
  cases x with
  | non => cases e; cases (show v = Value.none from r); exact ⟨.none, rfl, rfl, rfl⟩
  | bl b => cases e; cases (show v = Value.bool b from r); exact ⟨.bool b, rfl, rfl, rfl⟩
  | int i =>
    obtain ⟨t, rfl⟩ := (show ∃ t, v = Value.int i t from r)
    have e' : (if i.natAbs.log2 < 1920 then some (PyData.int i) else none) = some d := e
    by_cases hi : i.natAbs.log2 < 1920
    · rw [if_pos hi] at e'
      cases e'
      exact ⟨.int i t, by simp [PyData.showable, hi], rfl, rfl⟩
    · rw [if_neg hi] at e'
      cases e'
  | str y =>
    obtain ⟨t, rfl⟩ := (show ∃ t, v = Value.str y t from r)
    cases e
    exact ⟨.str y t, rfl, rfl, rfl⟩
  | byt _ => cases e
  | flt _ => cases e
  | ref _ => cases e
  | ty _ => cases e
theorem flats_reads {h : Heap} : ∀ {xs : List V} {vs : List Value} {ds : List PyData}, Vals xs vs → flatDs xs = some ds → ReadsAll h vs ds [] ∧ PyData.showableAll ds = true ∧ PyData.depthAll ds = 0 ∧ PyData.hasDictAll ds = false
  | _, _, _, .nil, e => by cases e; exact ⟨.nil, rfl, rfl, rfl⟩
  | _, _, _, .cons r t, e => by
    unfold flatDs at e
    split at e
    · rename_i d ds h1 h2
      cases e
      obtain ⟨a1, a2, a3, a4⟩ := flat_reads (h := h) r h1
      obtain ⟨b1, b2, b3, b4⟩ := flats_reads t h2
      exact ⟨.cons a1 b1, by simp [PyData.showableAll, a2, b2], by simp [PyData.depthAll, a3, b3], by simp [PyData.hasDictAll, a4, b4]⟩
    · cases e
section
variable {X : Cx}
def rReprL : List V → Hp → VK → Prop := fun xs H Q => ∃ a zs ds, xs = [V.ref a] ∧ H a = some (.lst zs) ∧ flatDs zs = some ds ∧ (PyData.list ds).shown.length ≤ sizeLine ∧ Q (.str (PyData.list ds).shown) H
theorem call_reprL {k : Nat} (hg : X.A.guards = some []) (hr : Room k X.A) : CallR X (.builtin "repr") rReprL := by
  intro pins s σ H xs us Q I r h
  obtain ⟨a, zs, ds, rfl, ha, hd, hz, q⟩ := h
  obtain ⟨u, rfl, ru⟩ := r.one
  cases (show u = Value.ref a from ru)
  obtain ⟨_, its, n, rv, h1⟩ := (show ObjOk X.prog X.w H s.heap a (.lst zs) from I.hok a _ ha)
  obtain ⟨b1, b2, b3, b4⟩ := flats_reads (h := s.heap) rv hd
  have R : Reads s.heap (.ref a) (.list ds) [a] := .list (as := []) h1 rfl rfl (by simpa using b1)
  refine repr_of_reads' R (by simpa [PyData.showable] using b2) (PyData.noDict_hsm (by simpa [PyData.hasDict] using b4)) hg (by have := hr.un; simp only [PyData.depth, b3]; omega) (fun _ _ e => e) (fun h' u tk hk => ?_) hz
  exact ⟨.str _, H, I.kept hk, ⟨u, rfl⟩, q⟩
end
end SF

/-! Operators of own instances: left, right (reflected), both; minus, abs(), +=. -/
namespace SF
open PySem PySem.Spec PyProof.Rows L2
open AutoSeq1 (wpAny_loadPart')
section
variable {prog : Program} {w : World} {A : Around} {E : Value → Shared → Prop} {s : Shared} {K : PySem.W.Frag} {x C f : Addr} {ox : Obj} {od : Option Obj}
/-- what stands in the text for a class whose op is its own def -/
structure OwnOp (K : PySem.W.Frag) (C : Addr) (op : Operator) (f : Addr) : Prop where
  sf : PySem.W.selfFirst K C = true
  hs : PySem.W.findIn K (.ref C) (PySem.dunder op.info.2) = some (some (.ref f))
  hf : PySem.W.isFn K (.ref f) = true
  hr : ∃ rc, PySem.W.findIn K (.ref C) (dunderR op.info.2) = some rc ∧ (rc = none ∨ ∃ g : Addr, rc = some (.ref g))
  h1 : ∃ fo, PySem.W.findIn K (.type "int") (PySem.dunder op.info.2) = some fo
  h2 : ∃ ro, PySem.W.findIn K (.type "int") (dunderR op.info.2) = some ro
  hsub : PySem.W.subIn K (.type "int") (.ref C) = some false
/-- .. and whose reflected op is, too -/
structure OwnOpR (K : PySem.W.Frag) (C : Addr) (op : Operator) (f g : Addr) : Prop where
  sf : PySem.W.selfFirst K C = true
  hs : PySem.W.findIn K (.ref C) (PySem.dunder op.info.2) = some (some (.ref f))
  hr : PySem.W.findIn K (.ref C) (dunderR op.info.2) = some (some (.ref g))
  hg : PySem.W.isFn K (.ref g) = true
  hsub : PySem.W.subIn K (.ref C) (.type "int") = some false
/-- how int's own def for op declines an instance -/
structure IntNo (op : Operator) (idl : String) : Prop where
  fills : fillsNumberSlot (.type "int") op.info.2 = pure true
  slot : Slot "int" (PySem.dunder op.info.2) idl
  no : ∀ (prog : Program) (w : World) (A : Around) (s : Shared) (i : Int) (t : Tok) (x C dx : Addr) (R : Value → Shared → Prop) (E : Value → Shared → Prop), s.heap.get? x = some (PySem.W.instObj C dx) → R .notImplemented s →
    wpAny (model prog w) A (call (.builtin idl) [.int i t, .ref x]) R E s
theorem binop_KR {op : Operator} {idl : String} {i : Int} {t : Tok} {g dx : Addr} {Q : Value → Shared → Prop} (N : IntNo op idl) (O : OwnOpR K C op f g) (X : K.In s.heap) (I : PySem.W.InstAt s.heap x (PySem.W.instObj C dx) C od)
    (h : wpAny (model prog w) A (call (.ref g) [.ref x, .int i t]) (PySem.W.CmpBack Q) E s) : wpAny (model prog w) A (binaryOp op (.int i t) (.ref x)) Q E s := by
  obtain ⟨cd, rest, hcd, hm⟩ := PySem.W.ksp_first O.sf
  have hN1 := N.fills
  have hN2 := N.slot
  have hs := O.hs
  have hr := O.hr
  rcases hi : op.info with ⟨sym, nm'⟩
  rw [hi] at hs hr hN1 hN2
  dsimp only at hs hr hN1 hN2
  have one := PySem.W.ksp_try X I hr O.hg h
  have hne : (Value.type "int" == Value.ref C) = false := Bool.eq_false_iff.mpr fun q => by cases beq_iff_eq.mp q
  simp only [binaryOp, hi]
  refine wpAny_holding (wpAny_bind ?_)
  unfold binaryOp1
  refine wpAny_bind (wpAny_typeOf (typeIs_int s i t) (wpAny_bind (I.type.here (wpAny_bind (wpAny_of_eq hN1 ?_)))))
  simp only [hne, Bool.false_eq_true, if_false]
  refine wpAny_bind ((PySem.W.fills_K X hcd hm hs).here ?_)
  simp only [Bool.and_self, if_true]
  refine wpAny_bind ((PySem.W.looks_subIn X O.hsub).here ?_)
  have hpy : numberSlotInPython (.type "int") nm' = pure false := rfl
  simp only [Bool.false_eq_true, if_false, pure_bind, Bool.not_false, Bool.and_self, if_true, hpy]
  refine wpAny_bind (wpAny_tryMethod_declines (typeIs_int s i t) hN2 (N.no prog w A s i t x C dx _ _ I.at_ ⟨rfl, ?_⟩))
  refine wpAny_bind (wpAny_mono one (fun r s' z => ?_) fun _ _ e => e)
  obtain ⟨v, rfl, hq⟩ := z
  exact wpAny_bind (wpAny_rule (wpAny_pure (wpAny_pure hq)))

theorem noI_inplace {op : Operator} {b : Value} {Q : Value → Shared → Prop} (X : K.In s.heap) (I : PySem.W.InstAt s.heap x ox C od) (hno : PySem.W.Looks (model prog w) s.heap (fillsInplaceSlot (.ref C) op.info.2 (op == .Add)) false)
    (h : wpAny (model prog w) A (binaryOp1 op.info.2 (.ref x) b) (fun r s' => ∃ v, r = some v ∧ Q v s') E s) : wpAny (model prog w) A (inplaceOp op (.ref x) b) Q E s := by
  unfold inplaceOp
  refine wpAny_holding ?_
  refine wpAny_bind (I.type.here ?_)
  refine wpAny_bind (hno.here ?_)
  simp only [Bool.false_eq_true, if_false]
  refine wpAny_bind (wpAny_mono h (fun r s' z => ?_) fun _ _ e => e)
  obtain ⟨v, rfl, hq⟩ := z
  exact wpAny_pure hq
end

section
open PyProof.Rows
theorem dec_add (b : Int) (u : Tok) (l C dx : Addr) : Meets (Builtin.«int.__add__» ⟨[.int b u, .ref l], []⟩) (fun _ R s => s.heap.get? l = some (PySem.W.instObj C dx) ∧ R (.ok (.ret .notImplemented)) s) :=
  .of_wp fun prog w A R s h => by obtain ⟨hp, g, d, tk, os⟩ := s; obtain ⟨hl, h⟩ := h; wp_walk using wpAny_loadPart' hl, wpAny_load hl; exact ⟨_, rfl, h⟩
theorem dec_sub (b : Int) (u : Tok) (l C dx : Addr) : Meets (Builtin.«int.__sub__» ⟨[.int b u, .ref l], []⟩) (fun _ R s => s.heap.get? l = some (PySem.W.instObj C dx) ∧ R (.ok (.ret .notImplemented)) s) :=
  .of_wp fun prog w A R s h => by obtain ⟨hp, g, d, tk, os⟩ := s; obtain ⟨hl, h⟩ := h; wp_walk using wpAny_loadPart' hl, wpAny_load hl; exact ⟨_, rfl, h⟩
theorem dec_mul (b : Int) (u : Tok) (l C dx : Addr) : Meets (Builtin.«int.__mul__» ⟨[.int b u, .ref l], []⟩) (fun _ R s => s.heap.get? l = some (PySem.W.instObj C dx) ∧ R (.ok (.ret .notImplemented)) s) :=
  .of_wp fun prog w A R s h => by obtain ⟨hp, g, d, tk, os⟩ := s; obtain ⟨hl, h⟩ := h; wp_walk using wpAny_loadPart' hl, wpAny_load hl; exact ⟨_, rfl, h⟩
theorem dec_fdiv (b : Int) (u : Tok) (l C dx : Addr) : Meets (Builtin.«int.__floordiv__» ⟨[.int b u, .ref l], []⟩) (fun _ R s => s.heap.get? l = some (PySem.W.instObj C dx) ∧ R (.ok (.ret .notImplemented)) s) :=
  .of_wp fun prog w A R s h => by obtain ⟨hp, g, d, tk, os⟩ := s; obtain ⟨hl, h⟩ := h; wp_walk using wpAny_loadPart' hl, wpAny_load hl; exact ⟨_, rfl, h⟩
theorem dec_mod (b : Int) (u : Tok) (l C dx : Addr) : Meets (Builtin.«int.__mod__» ⟨[.int b u, .ref l], []⟩) (fun _ R s => s.heap.get? l = some (PySem.W.instObj C dx) ∧ R (.ok (.ret .notImplemented)) s) :=
  .of_wp fun prog w A R s h => by obtain ⟨hp, g, d, tk, os⟩ := s; obtain ⟨hl, h⟩ := h; wp_walk using wpAny_loadPart' hl, wpAny_load hl; exact ⟨_, rfl, h⟩
theorem no_add : IntNo .Add "int.__add__" := ⟨F.fills_int_add, F.slot_int_add, fun prog w A s i t x C dx R E hx q => call_meets F.slot_int_add (typeIs_int s i t) F.entry_int_add (F.args_int_add_2 _ _) (dec_add i t x C dx) ⟨hx, q⟩⟩
theorem no_sub : IntNo .Sub "int.__sub__" := ⟨F.fills_int_sub, F.slot_int_sub, fun prog w A s i t x C dx R E hx q => call_meets F.slot_int_sub (typeIs_int s i t) F.entry_int_sub (F.args_int_sub_2 _ _) (dec_sub i t x C dx) ⟨hx, q⟩⟩
theorem no_mul : IntNo .Mult "int.__mul__" := ⟨F.fills_int_mul, F.slot_int_mul, fun prog w A s i t x C dx R E hx q => call_meets F.slot_int_mul (typeIs_int s i t) F.entry_int_mul (F.args_int_mul_2 _ _) (dec_mul i t x C dx) ⟨hx, q⟩⟩
theorem no_fdiv : IntNo .FloorDiv "int.__floordiv__" := ⟨F.fills_int_floordiv, F.slot_int_floordiv, fun prog w A s i t x C dx R E hx q => call_meets F.slot_int_floordiv (typeIs_int s i t) F.entry_int_floordiv (F.args_int_floordiv_2 _ _) (dec_fdiv i t x C dx) ⟨hx, q⟩⟩
theorem no_mod : IntNo .Mod "int.__mod__" := ⟨F.fills_int_mod, F.slot_int_mod, fun prog w A s i t x C dx R E hx q => call_meets F.slot_int_mod (typeIs_int s i t) F.entry_int_mod (F.args_int_mod_2 _ _) (dec_mod i t x C dx) ⟨hx, q⟩⟩
end

section
variable {X : Cx} {CX : CXT} {n : Nat} {C f g : Addr} {fd : FuncData} {ps : List Str} {sp : Sp} {E : XK}
def IsIns (C : Addr) (H : Hp) (y : V) : Prop := ∃ a dx fs, y = .ref a ∧ H a = some (.ins C dx fs)
/-- x op y by the own def of x's class: y of the same class, or an int -/
def rOB (C : Addr) (sp : Sp) (E : XK) : R2 := fun x y H Q => IsIns C H x ∧ (IsIns C H y ∨ ∃ i, y = .int i) ∧ sp [x, y] H Q E
theorem op_OB {op : Operator} (O : OwnOp X.K C op f) (F : FnOk X.prog X.w X.K X.mg X.base CX n f fd ps sp) (hb : Binds X.K fd ps []) (hr : Room n X.A) (hx : Passes CX X E) : OpR X (binaryOp op) (rOB C sp E) := by
  intro pins s σ H x y v u Q I rx ry h
  obtain ⟨⟨a, dx, fs, rfl, ha⟩, hy, q⟩ := h
  cases (show v = Value.ref a from rx)
  obtain ⟨od, J⟩ := inst_of I ha
  obtain ⟨m, hF⟩ := I.fr
  have run : wpAny (model X.prog X.w) X.A (call (.ref f) [.ref a, u]) (PySem.W.CmpBack (fun w s' => EP X pins σ Q w s')) X.xe s := by
    refine wpAny_mono (run_fn (us := [.ref a, u]) (vs := [.ref a, y]) (dvs := []) (ds := []) F hr hb .nil hx I (.cons rfl (.cons ry .nil)) (by simpa using q)) (fun w s' z => ?_) fun _ _ x => x
    obtain ⟨z', H', I', rz, qz⟩ := z
    exact SlX.cmpback rz ⟨z', H', I', rz, qz⟩
  rcases hy with ⟨b, dy, gs, rfl, hb'⟩ | ⟨i, rfl⟩
  · cases (show u = Value.ref b from ry)
    obtain ⟨od', J'⟩ := inst_of I hb'
    exact PySem.W.binop_K hF I.ok.mod.kin J J'.type O.sf O.hs O.hf run
  · obtain ⟨t, e⟩ := (show ∃ t, u = Value.int i t from ry)
    cases e
    obtain ⟨rc, hrc, hp⟩ := O.hr
    obtain ⟨fo, h1⟩ := O.h1
    obtain ⟨ro, h2⟩ := O.h2
    exact PySem.W.ksp_binT hF I.ok.mod.kin J rfl O.sf O.hs O.hf hrc hp h1 h2 O.hsub run
/-- i op y, i an int, by the reflected def of y's class -/
def rOBR (C : Addr) (sp : Sp) (E : XK) : R2 := fun x y H Q => (∃ i, x = .int i) ∧ IsIns C H y ∧ sp [y, x] H Q E
theorem op_OBR {op : Operator} {idl : String} (N : IntNo op idl) (O : OwnOpR X.K C op f g) (F : FnOk X.prog X.w X.K X.mg X.base CX n g fd ps sp) (hb : Binds X.K fd ps []) (hr : Room n X.A) (hx : Passes CX X E) : OpR X (binaryOp op) (rOBR C sp E) := by
  intro pins s σ H x y v u Q I rx ry h
  obtain ⟨⟨i, rfl⟩, ⟨a, dx, fs, rfl, ha⟩, q⟩ := h
  cases (show u = Value.ref a from ry)
  obtain ⟨t, e⟩ := (show ∃ t, v = Value.int i t from rx)
  cases e
  obtain ⟨od, J⟩ := inst_of I ha
  refine binop_KR N O I.kIn J ?_
  refine wpAny_mono (run_fn (us := [.ref a, .int i t]) (vs := [.ref a, .int i]) (dvs := []) (ds := []) F hr hb .nil hx I (.cons rfl (.cons ⟨t, rfl⟩ .nil)) (by simpa using q)) (fun w s' z => ?_) fun _ _ x => x
  obtain ⟨z', H', I', rz, qz⟩ := z
  exact SlX.cmpback rz ⟨z', H', I', rz, qz⟩
/-- -x by an own __neg__ -/
def rON (C : Addr) (sp : Sp) (E : XK) : V → Hp → VK → Prop := fun x H Q => IsIns C H x ∧ sp [x] H Q E
theorem un_ON (hs : PySem.W.findIn X.K (.ref C) "__neg__" = some (some (.ref f))) (hf : PySem.W.isFn X.K (.ref f) = true) (F : FnOk X.prog X.w X.K X.mg X.base CX n f fd ps sp) (hb : Binds X.K fd ps []) (hr : Room n X.A) (hx : Passes CX X E) :
    UnR X (unaryOp .USub) (rON C sp E) := by
  intro pins s σ H x v Q I rx h
  obtain ⟨⟨a, dx, fs, rfl, ha⟩, q⟩ := h
  cases (show v = Value.ref a from rx)
  obtain ⟨od, J⟩ := inst_of I ha
  obtain ⟨m, hF⟩ := I.fr
  refine PySem.W.ksp_neg hF I.ok.mod.kin J hs hf ?_
  exact run_fn (us := [.ref a]) (vs := [.ref a]) (dvs := []) (ds := []) F hr hb .nil hx I (.cons rfl .nil) (by simpa using q)
/-- abs(x) by an own __abs__ -/
def rOA (C : Addr) (sp : Sp) (E : XK) : List V → Hp → VK → Prop := fun xs H Q => ∃ x, xs = [x] ∧ IsIns C H x ∧ sp [x] H Q E
theorem call_absOwn (hs : PySem.W.findIn X.K (.ref C) "__abs__" = some (some (.ref f))) (hf : PySem.W.isFn X.K (.ref f) = true) (F : FnOk X.prog X.w X.K X.mg X.base CX n f fd ps sp) (hb : Binds X.K fd ps []) (hr : Room (n + 1) X.A) (hx : Passes CX X E) :
    CallR X (.builtin "abs") (rOA C sp E) := by
  intro pins s σ H xs us Q I r h
  obtain ⟨x, rfl, ⟨a, dx, fs, rfl, ha⟩, q⟩ := h
  obtain ⟨u, rfl, ru⟩ := r.one
  cases (show u = Value.ref a from ru)
  obtain ⟨od, J⟩ := inst_of I ha
  refine Calls.call_function_entry kind_abs plain_abs entry_abs (args_abs _) ?_
  unfold Builtin.«abs»
  refine wpAny_bind (m := oneArg "abs" _) (wpAny_pure ?_)
  refine wpAny_bind (m := callSpecial? (.ref a) (Str.ofString "__abs__")) (PySem.W.special_fn I.kIn J hs (beq_iff_eq.mp hf) ?_)
  refine wpAny_mono (run_fnA (us := [.ref a]) (vs := [.ref a]) F hr.in1 rfl hb hx I (.cons rfl .nil) q) (fun w s' z => ?_) fun _ _ x => x
  exact wpAny_pure ⟨_, rfl, z⟩
end
end SF

/-! The end of a law row whose def is only known to keep its promise where no guard runs. -/
namespace SF
open PySem PySem.Spec PyProof.Rows L2
/-- the script's object as the abstract heap bears it: frozen, unless it is one of the module's own -/
def scriptH (K : PySem.W.Frag) (a : Addr) (vs : List Value) (ns : List Int) : Hp := fun b =>
  if b = a ∧ K.lookup a = none then some (.frz { cls := .type "list", data := .seq vs.toArray } (.lst (ns.map V.int))) else none
section
variable {P : Program} {w : World} {K : PySem.W.Frag} {a : Addr} {vs : List Value} {ns : List Int} {s₁ : Shared}
theorem scriptH_some {b : Addr} {u : HO} (e : scriptH K a vs ns b = some u) : b = a ∧ K.lookup a = none ∧ u = .frz { cls := .type "list", data := .seq vs.toArray } (.lst (ns.map V.int)) := by
  by_cases h : b = a ∧ K.lookup a = none
  · have z : some _ = some u := (if_pos h).symm.trans e
    exact ⟨h.1, h.2, (Option.some.inj z).symm⟩
  · have z : none = some u := (if_neg h).symm.trans e
    cases z
theorem scriptH_seq (KX : K.In s₁.heap) (ha : s₁.heap.get? a = some { cls := .type "list", data := .seq vs.toArray }) (hi : IntsAre vs ns) (hl : ns.length ≤ sizeLine) : SqL K (scriptH K a vs ns) a (ns.map V.int) := by
  cases hk : K.lookup a with
  | none => exact .inl (.inr ⟨_, if_pos ⟨rfl, hk⟩⟩)
  | some o =>
    have z := (KX a o hk).symm.trans ha
    cases z
    have hz : vs.toArray.size ≤ sizeLine := by rw [List.size_toArray, hi.length]; exact hl
    exact .inr ⟨_, vs.toArray, _, hk, rfl, rfl, rfl, hz, by rw [List.toList_toArray]; exact vals_ints hi⟩
theorem scriptH_ok (ha : s₁.heap.get? a = some { cls := .type "list", data := .seq vs.toArray }) (hi : IntsAre vs ns) (hl : ns.length ≤ sizeLine) : HOk P w (scriptH K a vs ns) s₁.heap := fun b u e => by
  obtain ⟨rfl, _, rfl⟩ := scriptH_some e
  exact ⟨ha, by rw [List.length_map]; exact hl, vs, _, vals_ints hi, ha⟩
/-- whatever the written part, a namespace or a dict bears stays in the base -/
theorem scriptH_base {b : Addr} {o : Obj} (e : s₁.heap.get? b = some o) (hn : b = a → K.lookup a ≠ none) : (hidT s₁.heap (scriptH K a vs ns)).get? b = some o := by
  refine hidT_get e ?_
  cases q : scriptH K a vs ns b with
  | none => rfl
  | some u =>
    obtain ⟨z, hk, _⟩ := scriptH_some q
    exact absurd hk (hn z)
theorem scriptH_ns {b : Addr} {m : Str → Option Value} (ha : s₁.heap.get? a = some { cls := .type "list", data := .seq vs.toArray }) (n : s₁.heap.Ns b m) : (hidT s₁.heap (scriptH K a vs ns)).Ns b m := by
  obtain ⟨o, es, ep, e, d, r⟩ := n
  refine ⟨o, es, ep, scriptH_base e (fun z => ?_), d, r⟩
  rw [z, ha] at e
  cases e
  cases d
theorem law_callG {mg mb : Str → Option Value} {k : Nat} {fa : Addr} {fd : FuncData} {x : Str} {sp : Sp}
    (KX : K.In s₁.heap) (hns : s₁.heap.Ns mainGlobals mg) (hb : s₁.heap.Ns builtinsNs mb) (hbb : ∀ x : Str, x ≠ "__name__" → mb x = bootBuiltins x) (hlim : s₁.heap.NoLimit) (hg : s₁.gens = #[])
    (ha : s₁.heap.get? a = some { cls := .type "list", data := .seq vs.toArray }) (hi : IntsAre vs ns) (hl : ns.length ≤ sizeLine) (hr : Room k callerA)
    (F : ∀ base : Heap, K.In base → base.Ns mainGlobals mg → FnG P w K mg base CX0 k fa fd [x] sp) (hbind : ∀ (s : Shared) (u : Value), BindsTo s fd ⟨[u], []⟩ [(x, u)])
    (hsp : ∀ H : Hp, SqL K H a (ns.map V.int) → sp [.ref a] H (fun v _ => v = .bl true) fun _ _ _ => False) :
    codeAny (model P w) callerA (.call (.ref fa) ⟨[.ref a], []⟩) (fun r s' => r = .ok (.ret (.bool true)) ∧ PySem.OldK s₁.heap s'.heap ∧ s'.os = s₁.os ∧ AllBare s'.gens) s₁ := by
  have kb : K.In (hidT s₁.heap (scriptH K a vs ns)) := fun b o e => scriptH_base (KX b o e) fun z n => by
    rw [← z, e] at n
    cases n
  have nb := scriptH_ns (K := K) (ns := ns) ha hns
  have lb : (hidT s₁.heap (scriptH K a vs ns)).NoLimit := by
    obtain ⟨mc, n1, n2⟩ := hlim
    exact ⟨mc, scriptH_ns ha n1, n2⟩
  have okH : HOk P w (scriptH K a vs ns) s₁.heap := scriptH_ok ha hi hl
  have noF : ∀ b, b ∈ frs [] → False := fun b hb => nomatch hb
  have e0 : Env0 P w K mg (hidT s₁.heap (scriptH K a vs ns)) callerA [] s₁ (scriptH K a vs ns) :=
    { frames := rfl, mod := ⟨kb, nb, ⟨mb, scriptH_ns ha hb, hbb⟩, lb⟩, bs := fun b o e => of_hidT e, bsz := Nat.le_of_eq (hidT_size _ _), funs := trivial, frf := fun b z => (noF b z).elim, hok := okH, bare := .of_eq hg }
  have run := (F _ kb nb).run callerA [] s₁ _ ⟨[.ref a], []⟩ [.ref a] [.ref a] _ _ rfl hr e0 (hbind s₁ (.ref a)) (.cons rfl .nil) (hsp _ (scriptH_seq KX ha hi hl))
  refine codeAny_mono run fun r s' q => ?_
  rcases r with e | fl
  · exact False.elim q
  cases fl <;> first | exact False.elim q | skip
  obtain ⟨v, H', os, bare, un, ok', rv, qv⟩ := q
  have ev : v = .bl true := qv
  rw [ev] at rv
  cases rv
  refine ⟨rfl, .of_keep fun b o e => ?_, os, bare⟩
  cases z : scriptH K a vs ns b with
  | none => exact un.keep b o e z (noF b) (by simp)
  | some u =>
    obtain ⟨rfl, _, rfl⟩ := scriptH_some z
    have after := (ok' b _ (un.frzs b _ _ z)).1
    rw [e] at ha
    rw [ha]
    exact after
end
/-- the goal that the head leaves -/
theorem walkG {l : PySem.W.OpenLaw} {n k : Nat} {q : Program} {loose : List Str} {XP : (Str → Option Value) → Heap → Prop} {YP : World → Heap → Prop} {d : DefRec} {K : Params → PySem.W.Frag} {sp : PySem.W.Frag → Sp} {x : Str}
    (hn : l.most = some n) (hn2 : n ≤ sizeLine) (hdf : d.params.defaults = []) (hr : Room k callerA) (hY : ∀ (w : World) (h : Heap), YP w h → (K w.params).In h)
    (F : ∀ (w : World) (mg : Str → Option Value) (fa : Addr) (h : Heap), (K w.params).In h → h.Ns mainGlobals mg → mg d.name = some (.ref fa) →
      ∃ fd : FuncData, (∀ (s : Shared) (u : Value), BindsTo s fd ⟨[u], []⟩ [(x, u)]) ∧ ∀ base : Heap, (K w.params).In base → base.Ns mainGlobals mg → FnG l.prog w (K w.params) mg base CX0 k fa fd [x] (sp (K w.params)))
    (hsp : ∀ (K : PySem.W.Frag) (H : Hp) (a : Addr) (ns : List Int), ns.length ≤ n → SqL K H a (ns.map V.int) → sp K [.ref a] H (fun v _ => v = .bl true) fun _ _ _ => False) :
    PySem.W.WalkO q loose XP YP l.row.toRowW d [] (fun f vs => PySem.call f vs) := by
  refine Att.attach_call hn hdf fun w s₀ s₁ mg mb fa o pm cd doc a vs ns G Y ho hd hcd hmg hobj hints hlen hg => ?_
  obtain ⟨fd, hb, hF⟩ := F w mg fa _ (hY w _ Y) G.T.g hmg
  exact law_callG (hY w _ Y) G.T.g G.T.b G.T.builtins G.T.nolimit hg hobj hints (Nat.le_trans hlen hn2) hr hF hb fun H hS => hsp _ H a ns hlen hS
end SF

/-! Fractions in lowest terms, as Lean's own rational numbers. -/
namespace SQ
open Rat
def gI (u l : Int) : Int := ((Nat.gcd u.natAbs l.natAbs : Nat) : Int)
def sg (u l : Int) : Int := if l < 0 then -gI u l else gI u l
def nt (u l : Int) : Int := u.fdiv (sg u l)
def nb (u l : Int) : Int := l.fdiv (sg u l)
theorem gI_pos {u l : Int} (h : l ≠ 0) : 0 < gI u l := by
  unfold gI
  have : 0 < Nat.gcd u.natAbs l.natAbs := Nat.gcd_pos_of_pos_right _ (Int.natAbs_pos.mpr h)
  omega
theorem sg_natAbs {u l : Int} : (sg u l).natAbs = Nat.gcd u.natAbs l.natAbs := by
  unfold sg gI
  split <;> omega
theorem sg_ne {u l : Int} (h : l ≠ 0) : sg u l ≠ 0 := by
  have e := sg_natAbs (u := u) (l := l)
  have h2 : 0 < Nat.gcd u.natAbs l.natAbs := Nat.gcd_pos_of_pos_right _ (Int.natAbs_pos.mpr h)
  omega
theorem sg_dvd {u l : Int} : sg u l ∣ u ∧ sg u l ∣ l := by
  have e := sg_natAbs (u := u) (l := l)
  constructor
  · apply Int.natAbs_dvd_natAbs.mp
    rw [e]
    exact Nat.gcd_dvd_left _ _
  · apply Int.natAbs_dvd_natAbs.mp
    rw [e]
    exact Nat.gcd_dvd_right _ _
theorem n_eqs {u l : Int} (h : l ≠ 0) : u = sg u l * nt u l ∧ l = sg u l * nb u l := by
  have hs := sg_ne (u := u) h
  obtain ⟨a, ha⟩ := (sg_dvd (u := u) (l := l)).1
  obtain ⟨c, hc⟩ := (sg_dvd (u := u) (l := l)).2
  have e1 : nt u l = a := by
    show Int.fdiv u (sg u l) = a
    have : Int.fdiv (sg u l * a) (sg u l) = a := Int.mul_fdiv_cancel_left _ hs
    rw [← ha] at this
    exact this
  have e2 : nb u l = c := by
    show Int.fdiv l (sg u l) = c
    have : Int.fdiv (sg u l * c) (sg u l) = c := Int.mul_fdiv_cancel_left _ hs
    rw [← hc] at this
    exact this
  rw [e1, e2]
  exact ⟨ha, hc⟩
theorem nb_pos {u l : Int} (h : l ≠ 0) : 0 < nb u l := by
  obtain ⟨h1, h2⟩ := n_eqs (u := u) h
  have hb : nb u l ≠ 0 := fun z => h (by rw [h2, z, Int.mul_zero])
  have hp := gI_pos (u := u) h
  by_cases hl : l < 0
  · have es : sg u l = -gI u l := if_pos hl
    by_cases hn : 0 < nb u l
    · exact hn
    · have : 0 ≤ sg u l * nb u l := by
        rw [es]
        exact Int.mul_nonneg_of_nonpos_of_nonpos (by omega) (by omega)
      omega
  · have es : sg u l = gI u l := if_neg hl
    by_cases hn : 0 < nb u l
    · exact hn
    · have : sg u l * nb u l ≤ 0 := by
        rw [es]
        exact Int.mul_nonpos_of_nonneg_of_nonpos (by omega) (by omega)
      omega
theorem n_cop {u l : Int} (h : l ≠ 0) : Nat.gcd (nt u l).natAbs (nb u l).natAbs = 1 := by
  obtain ⟨h1, h2⟩ := n_eqs (u := u) h
  have e := sg_natAbs (u := u) (l := l)
  have hg : 0 < Nat.gcd u.natAbs l.natAbs := Nat.gcd_pos_of_pos_right _ (Int.natAbs_pos.mpr h)
  have e1 : u.natAbs = Nat.gcd u.natAbs l.natAbs * (nt u l).natAbs := by
    rw [← e, ← Int.natAbs_mul, ← h1]
  have e2 : l.natAbs = Nat.gcd u.natAbs l.natAbs * (nb u l).natAbs := by
    rw [← e, ← Int.natAbs_mul, ← h2]
  have e3 : Nat.gcd u.natAbs l.natAbs = Nat.gcd u.natAbs l.natAbs * Nat.gcd (nt u l).natAbs (nb u l).natAbs := by
    rw [← Nat.gcd_mul_left, ← e1, ← e2]
  exact (Nat.eq_of_mul_eq_mul_left hg (by rw [Nat.mul_one]; exact e3)).symm
/-- what the program makes of u over l is the fraction's top and bottom -/
theorem n_rat {u l : Int} (h : l ≠ 0) : nt u l = (u /. l).num ∧ nb u l = ((u /. l).den : Int) := by
  have hp := nb_pos (u := u) h
  have hc := n_cop (u := u) h
  obtain ⟨h1, h2⟩ := n_eqs (u := u) h
  have hd : (nb u l).natAbs ≠ 0 := by omega
  have eq : u /. l = (⟨nt u l, (nb u l).natAbs, hd, hc⟩ : Rat) := by
    rw [Rat.mk_eq_divInt, Rat.divInt_eq_divInt_iff h (by omega), Int.natAbs_of_nonneg (by omega)]
    have : u * nb u l = (sg u l * nt u l) * nb u l := by rw [← h1]
    rw [this]
    have h3 : nt u l * l = nt u l * (sg u l * nb u l) := by rw [← h2]
    rw [h3]
    simp [Int.mul_comm, Int.mul_left_comm]
  rw [eq]
  refine ⟨rfl, ?_⟩
  show nb u l = (((nb u l).natAbs : Nat) : Int)
  rw [Int.natAbs_of_nonneg (by omega)]
theorem nt_rat {u l : Int} (h : l ≠ 0) : nt u l = (u /. l).num := (n_rat h).1
theorem nb_rat {u l : Int} (h : l ≠ 0) : nb u l = ((u /. l).den : Int) := (n_rat h).2
theorem n_le {u l : Int} (h : l ≠ 0) : (u /. l).num.natAbs ≤ u.natAbs ∧ (u /. l).den ≤ l.natAbs := by
  obtain ⟨h1, h2⟩ := n_eqs (u := u) h
  have hs : 0 < (sg u l).natAbs := Int.natAbs_pos.mpr (sg_ne h)
  obtain ⟨r1, r2⟩ := n_rat (u := u) h
  constructor
  · have e := congrArg Int.natAbs h1
    rw [Int.natAbs_mul, r1] at e
    rw [e]
    exact Nat.le_mul_of_pos_left _ hs
  · have e := congrArg Int.natAbs h2
    rw [Int.natAbs_mul, r2] at e
    rw [e]
    show _ ≤ _ * (u /. l).den
    exact Nat.le_mul_of_pos_left _ hs

/-- top and bottom have at most n binary digits -/
def Sz (n : Nat) (q : Rat) : Prop := q.num.natAbs < 2 ^ n ∧ q.den < 2 ^ n
theorem two_le {a b : Nat} (h : a ≤ b) : 2 ^ a ≤ 2 ^ b := Nat.pow_le_pow_right (by decide) h
theorem Sz.mono {n m : Nat} {q : Rat} (s : Sz n q) (h : n ≤ m) : Sz m q := ⟨Nat.lt_of_lt_of_le s.1 (two_le h), Nat.lt_of_lt_of_le s.2 (two_le h)⟩
theorem Sz.of {n : Nat} {u l : Int} (h : l ≠ 0) (hu : u.natAbs < 2 ^ n) (hl : l.natAbs < 2 ^ n) : Sz n (u /. l) :=
  let ⟨a, b⟩ := n_le (u := u) h
  ⟨Nat.lt_of_le_of_lt a hu, Nat.lt_of_le_of_lt b hl⟩
theorem mul_lt {a b n m : Nat} (ha : a < 2 ^ n) (hb : b < 2 ^ m) : a * b < 2 ^ (n + m) := by
  rw [Nat.pow_add]
  exact Nat.mul_lt_mul'' ha hb
theorem Sz.pos {n : Nat} {q : Rat} (s : Sz n q) : 0 < n := by
  cases n with
  | zero => have h := s.2; have := Nat.pos_of_ne_zero q.den_nz; omega
  | succ k => omega
theorem denZ (q : Rat) : (q.den : Int) ≠ 0 := by have := q.den_nz; omega
theorem denP (q : Rat) : (0 : Int) < q.den := by have := q.den_nz; omega
/-- the sum as the program writes it -/
theorem add_is (q r : Rat) : (q.num * r.den + r.num * q.den) /. (q.den * r.den) = q + r := by
  rw [← Rat.divInt_add_divInt _ _ (denZ q) (denZ r), Rat.num_divInt_den, Rat.num_divInt_den]
theorem mul_is (q r : Rat) : (q.num * r.num) /. (q.den * r.den) = q * r := by
  rw [← Rat.divInt_mul_divInt, Rat.num_divInt_den, Rat.num_divInt_den]
theorem inv_is (q : Rat) : (q.den : Int) /. q.num = q⁻¹ := (Rat.inv_def q).symm
theorem neg_is (q : Rat) : (-q.num) /. (q.den : Int) = -q := by
  rw [← Rat.neg_divInt, Rat.num_divInt_den]
theorem abs_is (q : Rat) : ((if q.num < 0 then -q.num else q.num) /. (q.den : Int)) = q.abs := by
  unfold Rat.abs
  by_cases h : q.num < 0
  · have : ¬ (0 ≤ q) := fun z => by have := Rat.num_nonneg.mpr z; omega
    rw [if_pos h, if_neg this, neg_is]
  · have : 0 ≤ q := Rat.num_nonneg.mp (by omega)
    rw [if_neg h, if_pos this, Rat.num_divInt_den]
theorem int_is (i : Int) : i /. 1 = (i : Rat) := by
  have := Rat.num_divInt_den (i : Rat)
  simpa using this
theorem floor_is (q : Rat) : q.num.fdiv q.den = q.floor := by
  rw [Rat.floor_def, Int.fdiv_eq_ediv_of_nonneg _ (by have := denP q; omega)]
theorem pow_is (q : Rat) (n : Nat) : (q.num ^ n) /. ((q.den : Int) ^ n) = q ^ n := by
  have := Rat.num_divInt_den (q ^ n)
  rw [Rat.num_pow, Rat.den_pow] at this
  rw [← this]
  congr 1
theorem den_ne (q r : Rat) : (q.den : Int) * r.den ≠ 0 := Int.mul_ne_zero (denZ q) (denZ r)
theorem num_ne {q : Rat} (h : q ≠ 0) : q.num ≠ 0 := fun z => h (Rat.num_eq_zero.mp z)
theorem natAbs_den (q : Rat) : ((q.den : Int)).natAbs = q.den := rfl

theorem sum_bd {n m : Nat} {q r : Rat} (s : Sz n q) (t : Sz m r) : (q.num * r.den + r.num * q.den).natAbs < 2 ^ (n + m + 1) ∧ ((q.den : Int) * r.den).natAbs < 2 ^ (n + m + 1) := by
  have a := mul_lt s.1 t.2
  have b := mul_lt t.1 s.2
  have c := mul_lt s.2 t.2
  rw [Nat.add_comm m n] at b
  have e : 2 ^ (n + m + 1) = 2 ^ (n + m) + 2 ^ (n + m) := by rw [Nat.pow_succ]; omega
  constructor
  · have := Int.natAbs_add_le (q.num * r.den) (r.num * q.den)
    rw [Int.natAbs_mul, Int.natAbs_mul, natAbs_den, natAbs_den] at this
    omega
  · rw [Int.natAbs_mul, natAbs_den, natAbs_den]; omega
theorem Sz.add {n m : Nat} {q r : Rat} (s : Sz n q) (t : Sz m r) : Sz (n + m + 1) (q + r) := by
  rw [← add_is]
  exact Sz.of (den_ne q r) (sum_bd s t).1 (sum_bd s t).2
theorem prod_bd {n m : Nat} {q r : Rat} (s : Sz n q) (t : Sz m r) : (q.num * r.num).natAbs < 2 ^ (n + m) ∧ ((q.den : Int) * r.den).natAbs < 2 ^ (n + m) := by
  rw [Int.natAbs_mul, Int.natAbs_mul]
  exact ⟨mul_lt s.1 t.1, mul_lt s.2 t.2⟩
theorem Sz.mul {n m : Nat} {q r : Rat} (s : Sz n q) (t : Sz m r) : Sz (n + m) (q * r) := by
  rw [← mul_is]
  exact Sz.of (den_ne q r) (prod_bd s t).1 (prod_bd s t).2
theorem Sz.neg {n : Nat} {q : Rat} (s : Sz n q) : Sz n (-q) := ⟨by rw [Rat.neg_num, Int.natAbs_neg]; exact s.1, s.2⟩
theorem Sz.abs {n : Nat} {q : Rat} (s : Sz n q) : Sz n q.abs := by
  unfold Rat.abs
  split
  · exact s
  · exact s.neg
theorem Sz.inv {n : Nat} {q : Rat} (s : Sz n q) (h : q ≠ 0) : Sz n q⁻¹ := by
  rw [← inv_is]
  exact Sz.of (num_ne h) s.2 s.1
theorem Sz.int {n : Nat} {i : Int} (h : i.natAbs < 2 ^ n) (h0 : 0 < n) : Sz n (i : Rat) := ⟨h, by show 1 < 2 ^ n; exact Nat.one_lt_two_pow (by omega)⟩
theorem floor_le_num {q : Rat} : q.floor.natAbs ≤ q.num.natAbs := by
  rw [Rat.floor_def]
  have hp := denP q
  have h1 := Int.mul_ediv_add_emod q.num q.den
  have h2 := Int.emod_nonneg q.num (denZ q)
  have h3 := Int.emod_lt_of_pos q.num hp
  rcases Int.le_total 0 q.num with h | h
  · have a := Int.ediv_nonneg h (Int.le_of_lt hp)
    have b : q.num / q.den ≤ q.num := Int.ediv_le_self _ h
    omega
  · have a : q.num ≤ q.num / q.den := by
      rw [Int.le_ediv_iff_mul_le hp]
      have : q.num * (q.den : Int) ≤ q.num * 1 := Int.mul_le_mul_of_nonpos_left h (by omega)
      omega
    have b : q.num / q.den ≤ 0 := by
      have := Int.ediv_le_ediv hp h
      rwa [Int.zero_ediv] at this
    omega
theorem Sz.floor {n : Nat} {q : Rat} (s : Sz n q) : Sz n (q.floor : Rat) := Sz.int (Nat.lt_of_le_of_lt floor_le_num s.1) s.pos
theorem Sz.pow {n : Nat} {q : Rat} (s : Sz n q) (k : Nat) : Sz (n * k + 1) (q ^ k) := by
  constructor
  · rw [Rat.num_pow, Int.natAbs_pow]
    refine Nat.lt_of_le_of_lt (Nat.pow_le_pow_left (Nat.le_of_lt s.1) k) ?_
    rw [← Nat.pow_mul]
    exact Nat.pow_lt_pow_right (by decide) (by omega)
  · rw [Rat.den_pow]
    refine Nat.lt_of_le_of_lt (Nat.pow_le_pow_left (Nat.le_of_lt s.2) k) ?_
    rw [← Nat.pow_mul]
    exact Nat.pow_lt_pow_right (by decide) (by omega)
theorem Sz.lt {n : Nat} {i : Int} (s : Sz n (i : Rat)) : i.natAbs < 2 ^ n := s.1
/-- two fractions are equal if top and bottom are -/
theorem eq_bools (q r : Rat) : (decide (q.num = r.num) && decide ((q.den : Int) = r.den)) = decide (q = r) := by
  by_cases h : q = r
  · subst h; simp
  · have : ¬ (q.num = r.num ∧ (q.den : Int) = r.den) := fun ⟨a, b⟩ => h (Rat.ext a (by omega))
    rw [decide_eq_false h]
    by_cases a : q.num = r.num
    · have b : ¬ (q.den : Int) = r.den := fun b => this ⟨a, b⟩
      rw [decide_eq_false b, Bool.and_false]
    · rw [decide_eq_false a, Bool.false_and]
theorem eq_int (q : Rat) (i : Int) : (decide ((q.den : Int) = 1) && decide (q.num = i)) = decide (q = (i : Rat)) := by
  have := eq_bools q (i : Rat)
  rw [Rat.num_intCast, Rat.den_intCast] at this
  rw [← this, Bool.and_comm]
  rfl
theorem ne_zero (q : Rat) : (q.num != 0) = decide (q ≠ 0) := by
  by_cases h : q = 0
  · subst h; simp
  · have := num_ne h
    simp [h, this]
end SQ

/-! The class of fractions: what its defs promise; expressions of fractions as rational numbers. -/
namespace SQ
open PySem PySem.Spec PyProof.Rows L2 SF
def kinds : List String := ["int", "bool", "str", "NoneType", "list", "tuple", "dict"]
/-- what stands in the text for the class Ratio at C -/
structure RC (K : PySem.W.Frag) (mg : Str → Option Value) (C : Addr) : Prop where
  cl : Cls K C
  nT : NoAttr K C "_top"
  nB : NoAttr K C "_bottom"
  mgC : mg "Ratio" = some (.ref C)
  isi : mg "isinstance" = none
  int_ : mg "int" = none
  bool_ : mg "bool" = none
  str_ : mg "str" = none
  abs_ : mg "abs" = none
  range_ : mg "range" = none
  repr_ : mg "repr" = none
  gcd : mg "gcd" = some (.builtin "math.gcd")
  kB : ∀ T ∈ kinds, PySem.W.kitOne K (.type T) (.ref C) = some false
  kC : PySem.W.kitOne K (.ref C) (.ref C) = some true
  ca : PySem.W.findIn K (.ref C) "__class__" = some (some (.builtin "object.__class__"))
  cn : PySem.W.specialIn K (.builtin "object.__class__") "__get__" = some (some (.builtin "getset_descriptor.__get__"))
  ct : PySem.W.takesIn K (.builtin "object.__class__") = some true
  cm : PySem.W.mroIn K C (.type "object") = some true
/-- the fields of a fraction -/
def rf (t b : Int) : List (Str × V) := putF "_bottom" (.int b) (putF "_top" (.int t) [])
theorem n_bt : ¬ (("_bottom" : Str) = "_top") := by decide +kernel
theorem n_tb : ¬ (("_top" : Str) = "_bottom") := by decide +kernel
theorem rf_top (t b : Int) : (rf t b).lookup ("_top" : Str) = some (.int t) := by
  unfold rf
  rw [lookup_putF, if_neg n_tb, lookup_putF, if_pos rfl]
theorem rf_bot (t b : Int) : (rf t b).lookup ("_bottom" : Str) = some (.int b) := by
  unfold rf
  rw [lookup_putF, if_pos rfl]
theorem rf_no {m : Str} (t b : Int) (h1 : ¬ (m = "_top")) (h2 : ¬ (m = "_bottom")) : (rf t b).lookup m = none := by
  unfold rf
  rw [lookup_putF, if_neg h2, lookup_putF, if_neg h1]
  rfl
/-- the fraction t / b stands at a -/
def RatH (C : Addr) (H : Hp) (a : Addr) (t b : Int) : Prop := ∃ dx, H a = some (.ins C dx (rf t b))
/-- the fraction q of at most n binary digits stands at a -/
def RQ (C : Addr) (H : Hp) (a : Addr) (n : Nat) (q : Rat) : Prop := RatH C H a q.num q.den ∧ Sz n q
/-- v is a fraction (k) or an int, equal to q -/
def NV (C : Addr) (H : Hp) (k : Bool) (v : V) (n : Nat) (q : Rat) : Prop := match k with
  | true => ∃ a, v = .ref a ∧ RQ C H a n q
  | false => ∃ i : Int, v = .int i ∧ q = (i : Rat) ∧ i.natAbs < 2 ^ n ∧ 0 < n
def LIM : Nat := 8900
section
variable {C : Addr} {H H' : Hp} {a p : Addr} {n m : Nat} {q r : Rat} {k : Bool} {v : V} {t b : Int}
theorem RatH.same (r : RatH C H a t b) (s : Same H H') : RatH C H' a t b := let ⟨dx, e⟩ := r; ⟨dx, s _ _ e⟩
theorem RQ.same (x : RQ C H a n q) (s : Same H H') : RQ C H' a n q := ⟨x.1.same s, x.2⟩
theorem RQ.mono (x : RQ C H a n q) (h : n ≤ m) : RQ C H a m q := ⟨x.1, x.2.mono h⟩
theorem NV.same (x : NV C H k v n q) (s : Same H H') : NV C H' k v n q := by
  cases k with
  | true => obtain ⟨a, e, y⟩ := x; exact ⟨a, e, y.same s⟩
  | false => exact x
theorem NV.sz (x : NV C H k v n q) : Sz n q := by
  cases k with
  | true => obtain ⟨a, e, y⟩ := x; exact y.2
  | false => obtain ⟨i, _, rfl, h, h0⟩ := x; exact Sz.int h h0
theorem RQ.nv (x : RQ C H a n q) : NV C H true (.ref a) n q := ⟨a, rfl, x⟩
theorem nvI {i : Int} (h : i.natAbs < 2 ^ n) (h0 : 0 < n) : NV C H false (.int i) n (i : Rat) := ⟨i, rfl, rfl, h, h0⟩
theorem RQ.ins (x : RQ C H a n q) : IsIns C H (.ref a) := let ⟨⟨dx, e⟩, _⟩ := x; ⟨a, dx, _, rfl, e⟩
theorem NV.kind (x : NV C H k v n q) : IsIns C H v ∨ ∃ i, v = .int i := by
  cases k with
  | true => obtain ⟨a, rfl, y⟩ := x; exact .inl y.ins
  | false => obtain ⟨i, rfl, _⟩ := x; exact .inr ⟨i, rfl⟩
theorem same_new {o : HO} (s : Same H H') (h : H' p = none) : Same H (upd H' p o) := fun c u e => by
  rw [upd_ne (ne_of_none (s _ _ e) h)]
  exact s _ _ e
theorem keep {o u : HO} (e : H a = some o) (n : H p = none) : upd H p u a = some o := by rw [upd_ne (ne_of_none e n)]; exact e
theorem upd_got {o : HO} (h : upd H p o = H') : H' p = some o := by rw [← h]; exact upd_same
theorem upd_stay {o : HO} (h : upd H p o = H') (n : H p = none) : Same H H' := by rw [← h]; exact same_new (Same.refl _) n
end
/-! ### what the defs promise -/
def spInit (C : Addr) : Sp := fun vs H Q _ => ∃ (p dx : Addr) (t b : Int), vs = [.ref p, .int t, .int b] ∧ b ≠ 0 ∧ b.natAbs < 2 ^ LIM ∧ H p = some (.ins C dx []) ∧ Q .non (upd H p (.ins C dx (rf (nt t b) (nb t b))))
section
variable {C : Addr} {H H' : Hp} {t b : Int} {W : VK}
theorem mk_fin {x dx : Addr} {n : Nat} (hx : H x = none) (hd : H dx = none) (hn : dx ≠ x) (h0 : b ≠ 0) (ht : t.natAbs < 2 ^ n) (hb : b.natAbs < 2 ^ n) (hl : n ≤ LIM) (q : ∀ H2, Same H H2 → RQ C H2 x n (Rat.divInt t b) → W .non H2) :
    spInit C [.ref x, .int t, .int b] (upd (upd H dx (.own x)) x (.ins C dx [])) W E0 := by
  refine ⟨x, dx, t, b, rfl, h0, Nat.lt_of_lt_of_le hb (two_le hl), upd_same, ?_⟩
  rw [upd_upd]
  refine q _ ?_ ⟨⟨dx, ?_⟩, Sz.of h0 ht hb⟩
  · refine same_new (same_new (Same.refl H) hd) ?_
    rw [upd_ne (Ne.symm hn)]
    exact hx
  · rw [← nt_rat h0, ← nb_rat h0]
    exact upd_same
end
def isI : V → Bool
  | .int _ => true
  | _ => false
def spIsW (C : Addr) : Sp := fun vs H Q _ => ∃ v, vs = [v] ∧ ((∃ T, Dec H v T ∧ Q (.bl (isI v)) H) ∨ (IsIns C H v ∧ Q (.bl false) H))
def spIsN (C : Addr) : Sp := fun vs H Q _ => ∃ v, vs = [v] ∧ ((∃ T, Dec H v T ∧ Q (.bl (isI v)) H) ∨ (IsIns C H v ∧ Q (.bl true) H))
def spAs (C : Addr) : Sp := fun vs H Q _ => ∃ v k n q, vs = [v] ∧ NV C H k v n q ∧ n ≤ LIM ∧ ∀ a H', Same H H' → RQ C H' a n q → Q (.ref a) H'
/-- of two fractions -/
def sp2 (C : Addr) (side : Rat → Rat → Prop) (f : Rat → Rat → Rat) (g : Nat → Nat → Nat) : Sp := fun vs H Q _ => ∃ a b n m q r, vs = [.ref a, .ref b] ∧ RQ C H a n q ∧ RQ C H b m r ∧ side q r ∧ g n m ≤ LIM ∧ ∀ p H', Same H H' → RQ C H' p (g n m) (f q r) → Q (.ref p) H'
/-- of a fraction and a number -/
def spM (C : Addr) (side : Rat → Rat → Prop) (f : Rat → Rat → Rat) (g : Nat → Nat → Nat) : Sp := fun vs H Q _ => ∃ a k v n m q r, vs = [.ref a, v] ∧ RQ C H a n q ∧ NV C H k v m r ∧ side q r ∧ g n m ≤ LIM ∧ ∀ p H', Same H H' → RQ C H' p (g n m) (f q r) → Q (.ref p) H'
def sp1 (C : Addr) (side : Rat → Prop) (f : Rat → Rat) : Sp := fun vs H Q _ => ∃ a n q, vs = [.ref a] ∧ RQ C H a n q ∧ side q ∧ n ≤ LIM ∧ ∀ p H', Same H H' → RQ C H' p n (f q) → Q (.ref p) H'
def yes1 : Rat → Prop := fun _ => True
def yes2 : Rat → Rat → Prop := fun _ _ => True
def nz1 : Rat → Prop := fun q => q ≠ 0
def nz2 : Rat → Rat → Prop := fun _ r => r ≠ 0
def gA (n m : Nat) : Nat := n + m + 1
def gM (n m : Nat) : Nat := n + m
def gR (n m : Nat) : Nat := n + (m + (n + m)) + 1
def fFl (q r : Rat) : Rat := ((q / r).floor : Rat)
def fRem (q r : Rat) : Rat := q - r * ((q / r).floor : Rat)
def fSubR (q r : Rat) : Rat := r - q
def fFlR (q r : Rat) : Rat := fFl r q
def fRemR (q r : Rat) : Rat := fRem r q
def spPow (C : Addr) : Sp := fun vs H Q _ => ∃ a n q e, vs = [.ref a, .int e] ∧ RQ C H a n q ∧ -20 ≤ e ∧ e ≤ 20 ∧ (q ≠ 0 ∨ 0 ≤ e) ∧ n * e.natAbs + 1 ≤ LIM ∧ n ≤ LIM ∧ ∀ p H', Same H H' → RQ C H' p (n * e.natAbs + 1) (q ^ e) → Q (.ref p) H'
def spWPow : Sp := fun vs H Q _ => ∃ (b : Int) (t n : Nat), vs = [.int b, .int (t : Int)] ∧ t ≤ 20 ∧ b.natAbs < 2 ^ n ∧ n ≤ LIM ∧ 0 < n ∧ Q (.int (b ^ t)) H
def spBool (C : Addr) : Sp := fun vs H Q _ => ∃ a n q, vs = [.ref a] ∧ RQ C H a n q ∧ Q (.bl (decide (q ≠ 0))) H
/-- is the fraction q equal to a thing of a built-in kind? -/
def eqO (y : V) (q : Rat) : Bool := match y with
  | .int i => decide (q = (i : Rat))
  | _ => false
def spEq (C : Addr) : Sp := fun vs H Q _ => ∃ a n q y, vs = [.ref a, y] ∧ RQ C H a n q ∧ ((∃ k m r, NV C H k y m r ∧ Q (.bl (decide (q = r))) H) ∨ ∃ T, Dec H y T ∧ Q (.bl (eqO y q)) H)
/-- a number's text -/
abbrev tx (i : Int) : Str := Str.ofString (toString i)
def rstr (q : Rat) : Str := if q.den = 1 then tx q.num else ((Str.empty ++ tx q.num) ++ ("/" : Str)) ++ tx q.den
def rrepr (q : Rat) : Str := ((((Str.empty ++ ("Ratio(" : Str)) ++ tx q.num) ++ (", " : Str)) ++ tx q.den) ++ (")" : Str)
def spStr (C : Addr) : Sp := fun vs H Q _ => ∃ a n q, vs = [.ref a] ∧ RQ C H a n q ∧ n ≤ 1900 ∧ Q (.str (rstr q)) H
def spRepr (C : Addr) : Sp := fun vs H Q _ => ∃ a n q, vs = [.ref a] ∧ RQ C H a n q ∧ n ≤ 1900 ∧ Q (.str (rrepr q)) H
/-- the text of a fraction, and of nothing else -/
def spRead (C : Addr) : Sp := fun vs H Q _ => ∃ n q, vs = [.ref C, .str (rstr q)] ∧ Sz n q ∧ n ≤ 1900 ∧ ∀ p H', Same H H' → RQ C H' p n q → Q (.ref p) H'

theorem lg {i : Int} {n : Nat} (h : i.natAbs < 2 ^ n) (hn : n ≤ LIM) : i.natAbs.log2 < 9000 :=
  Nat.lt_of_lt_of_le (PySem.Flt.log2_lt_of (k := LIM) (by decide) (Nat.lt_of_lt_of_le h (two_le hn))) (by decide)
theorem wm {i j : Int} {n m : Nat} (hi : i.natAbs < 2 ^ n) (hj : j.natAbs < 2 ^ m) (h : n + m ≤ 30 * LIM) : CMulW i j :=
  wide_mul (a := n + 1) (b := m + 1) (Nat.lt_of_lt_of_le hi (two_le (by omega))) (Nat.lt_of_lt_of_le hj (two_le (by omega))) (by omega) (by omega) (by unfold LIM at h; omega)
theorem sg_ok {u l : Int} (h : l ≠ 0) (hb : l.natAbs < 2 ^ LIM) : CDivZ u (sg u l) := by
  have e := sg_natAbs (u := u) (l := l)
  have h1 := Nat.gcd_le_right u.natAbs (Int.natAbs_pos.mpr h)
  have h2 : 0 < Nat.gcd u.natAbs l.natAbs := Nat.gcd_pos_of_pos_right _ (Int.natAbs_pos.mpr h)
  exact ⟨by omega, lg (n := LIM) (by omega) (Nat.le_refl _)⟩

/-! ### expressions of fractions -/
def GS (G : L2.St → Hp → Prop) : Prop := ∀ σ H H', G σ H → Same H H' → G σ H'
/-- e is a fraction (k) or an int, equal to q, of n binary digits, if s -/
def TQ (C : Addr) (G : L2.St → Hp → Prop) (k : Bool) (n : Nat) (q : Rat) (s : Prop) : TE := fun σ H Q => G σ H ∧ s ∧ ∀ v H', Same H H' → NV C H' k v n q → Q v H'
/-- e is the truth value b -/
def TB (G : L2.St → Hp → Prop) (b : Bool) (s : Prop) : TE := fun σ H Q => G σ H ∧ s ∧ ∀ H', Same H H' → Q (.bl b) H'
def TBt (G : L2.St → Hp → Prop) (b : Bool) (s : Prop) : TT := fun σ H Q => G σ H ∧ s ∧ ∀ H', Same H H' → Q b H'
def TS (G : L2.St → Hp → Prop) (x : Str) (s : Prop) : TE := fun σ H Q => G σ H ∧ s ∧ ∀ H', Same H H' → Q (.str x) H'
def TI (G : L2.St → Hp → Prop) (i : Int) (s : Prop) : TE := fun σ H Q => G σ H ∧ s ∧ ∀ H', Same H H' → Q (.int i) H'
section
variable {X : Cx} {C : Addr} {G : L2.St → Hp → Prop} {a b e : Expr} {k k1 k2 : Bool} {n m : Nat} {q r : Rat} {s s1 s2 : Prop} {pos p1 p2 : Pos}
theorem pe_weak {t t' : TE} (h : PE X e t) (i : ∀ σ H Q, t' σ H Q → t σ H Q) : PE X e t' := ⟨fun pins st σ H Q I x => h.run pins st σ H Q I (i _ _ _ x)⟩
theorem pt_weak {t t' : TT} (h : PT X e t) (i : ∀ σ H Q, t' σ H Q → t σ H Q) : PT X e t' := ⟨fun pins st σ H Q I x => h.run pins st σ H Q I (i _ _ _ x)⟩
theorem pw_weak {t t' : TT} (h : PW X e t) (i : ∀ σ H Q, t' σ H Q → t σ H Q) : PW X e t' := ⟨fun wh pins st σ H Q I x => h.run wh pins st σ H Q I (i _ _ _ x)⟩
theorem pq_var {i : Nat} (h : PE X e (tVar i)) (g : ∀ σ H, G σ H → ∃ v, σ[i]? = some (some v) ∧ NV C H k v n q) : PE X e (TQ C G k n q True) :=
  pe_weak h fun σ H Q ⟨hg, _, z⟩ => let ⟨v, hv, nv⟩ := g σ H hg; ⟨v, hv, z v H (Same.refl _) nv⟩
theorem pq_int {i j pos} (h : i.natAbs < 2 ^ n) (h0 : 0 < n) : PE X (.Constant (.int i) j pos) (TQ C G false n (i : Rat) True) :=
  pe_weak pe_int fun σ H Q ⟨hg, _, z⟩ => z _ H (Same.refl _) (nvI h h0)
/-- an operator's rule in the words of rational numbers -/
def rQ (C : Addr) (k1 k2 : Bool) (side : Rat → Rat → Prop) (f : Rat → Rat → Rat) (g : Nat → Nat → Nat) : R2 := fun x y H Q => ∃ n m q r, NV C H k1 x n q ∧ NV C H k2 y m r ∧ side q r ∧ g n m ≤ LIM ∧ ∀ p H', Same H H' → RQ C H' p (g n m) (f q r) → Q (.ref p) H'
theorem pq_op {op : Operator} {side : Rat → Rat → Prop} {f : Rat → Rat → Rat} {g : Nat → Nat → Nat} (ho : OpR X (binaryOp op) (rQ C k1 k2 side f g)) (hG : GS G) (ha : PE X a (TQ C G k1 n q s1)) (hb : PE X b (TQ C G k2 m r s2)) :
    PE X (.BinOp a op b pos) (TQ C G true (g n m) (f q r) (s1 ∧ s2 ∧ side q r ∧ g n m ≤ LIM)) :=
  pe_weak (pe_op ho ha hb) fun σ H Q ⟨hg, ⟨h1, h2, h3, h4⟩, z⟩ =>
    ⟨hg, h1, fun v H1 S1 nv => ⟨hG _ _ _ hg S1, h2, fun u H2 S2 nu => ⟨n, m, q, r, nv.same S2, nu, h3, h4, fun p H3 S3 rq => z _ H3 ((S1.trans S2).trans S3) rq.nv⟩⟩⟩
def rQ1 (C : Addr) (side : Rat → Prop) (f : Rat → Rat) : V → Hp → VK → Prop := fun x H Q => ∃ n q, NV C H true x n q ∧ side q ∧ n ≤ LIM ∧ ∀ p H', Same H H' → RQ C H' p n (f q) → Q (.ref p) H'
theorem pq_un {op : UnaryOp} {side : Rat → Prop} {f : Rat → Rat} (ho : UnR X (unaryOp op) (rQ1 C side f)) (ha : PE X a (TQ C G true n q s1)) : PE X (.UnaryOp op a pos) (TQ C G true n (f q) (s1 ∧ side q ∧ n ≤ LIM)) :=
  pe_weak (pe_un ho ha) fun σ H Q ⟨hg, ⟨h1, h2, h3⟩, z⟩ => ⟨hg, h1, fun v H1 S1 nv => ⟨n, q, nv, h2, h3, fun p H2 S2 rq => z _ H2 (S1.trans S2) rq.nv⟩⟩
/-- f(a), a built-in of one fraction -/
def rQc (C : Addr) (side : Rat → Prop) (f : Rat → Rat) : List V → Hp → VK → Prop := fun xs H Q => ∃ x, xs = [x] ∧ rQ1 C side f x H Q

/-! #### comparisons -/
def rQe (C : Addr) (k2 : Bool) (f : Rat → Rat → Bool) : R2 := fun x y H Q => ∃ n m q r, NV C H true x n q ∧ NV C H k2 y m r ∧ Q (.bl (f q r)) H
theorem pq_cmp {op : CmpOp} {f : Rat → Rat → Bool} (ho : OpR X (compareOp op) (rQe C k2 f)) (hG : GS G) (hm : behindInMarks op b = false) (ha : PE X a (TQ C G true n q s1)) (hb : PE X b (TQ C G k2 m r s2)) :
    PE X (.Compare a [op] [b] pos) (TB G (f q r) (s1 ∧ s2)) :=
  pe_weak (pe_cmpR ho ha hb hm) fun σ H Q ⟨hg, ⟨h1, h2⟩, z⟩ =>
    ⟨hg, h1, fun v H1 S1 nv => ⟨hG _ _ _ hg S1, h2, fun u H2 S2 nu => ⟨n, m, q, r, nv.same S2, nu, z H2 (S1.trans S2)⟩⟩⟩
theorem pb_test {bb : Bool} (h : PE X e (TB G bb s)) (he : ∀ whole, isTrue e X.env whole = (do let v ← whole; standAt e.pos; holding [v] (truthy v)) := by intro _; rfl) : PT X e (TBt G bb s) :=
  pt_weak (pt_val h he) fun σ H Q ⟨hg, h1, z⟩ => ⟨hg, h1, fun H' S => ⟨bb, rfl, z H' S⟩⟩
theorem pb_or1 {bb : Bool} (ha : PT X a (TBt G bb s)) : PW X (.BoolOp .Or [a] pos) (TBt G bb s) := pw_or1 ha
theorem pb_or {rest : List Expr} {b1 b2 : Bool} (hG : GS G) (ha : PT X a (TBt G b1 s1)) (hb : PW X (.BoolOp .Or (b :: rest) pos) (TBt G b2 s2)) : PW X (.BoolOp .Or (a :: b :: rest) pos) (TBt G (b1 || b2) (s1 ∧ (b1 = false → s2))) :=
  pw_weak (pw_or ha hb) fun σ H Q ⟨hg, ⟨h1, h2⟩, z⟩ => ⟨hg, h1, fun H1 S1 => by
    cases b1 with
    | true => exact iteT (by simpa using z H1 S1)
    | false => exact iteF ⟨hG _ _ _ hg S1, h2 rfl, fun H2 S2 => by simpa using z H2 (S1.trans S2)⟩⟩
theorem pb_and1 {bb : Bool} (ha : PT X a (TBt G bb s)) : PW X (.BoolOp .And [a] pos) (TBt G bb s) := pw_and1 ha
theorem pb_and {rest : List Expr} {b1 b2 : Bool} (hG : GS G) (ha : PT X a (TBt G b1 s1)) (hb : PW X (.BoolOp .And (b :: rest) pos) (TBt G b2 s2)) : PW X (.BoolOp .And (a :: b :: rest) pos) (TBt G (b1 && b2) (s1 ∧ (b1 = true → s2))) :=
  pw_weak (pw_and ha hb) fun σ H Q ⟨hg, ⟨h1, h2⟩, z⟩ => ⟨hg, h1, fun H1 S1 => by
    cases b1 with
    | false => exact iteF (by simpa using z H1 S1)
    | true => exact iteT ⟨hG _ _ _ hg S1, h2 rfl, fun H2 S2 => by simpa using z H2 (S1.trans S2)⟩⟩
theorem pb_not {b1 : Bool} (ha : PT X a (TBt G b1 s1)) : PT X (.UnaryOp .Not a pos) (TBt G (!b1) s1) :=
  pt_weak (pt_not ha) fun σ H Q ⟨hg, h1, z⟩ => ⟨hg, h1, fun H1 S1 => z H1 S1⟩
/-- as values -/
theorem pv_and1 {bb : Bool} (ha : PE X a (TB G bb s)) : PE X (.BoolOp .And [a] pos) (TB G bb s) := pe_one ha
theorem pv_and {rest : List Expr} {b1 b2 : Bool} (hG : GS G) (ha : PE X a (TB G b1 s1)) (hb : PE X (.BoolOp .And (b :: rest) pos) (TB G b2 s2)) : PE X (.BoolOp .And (a :: b :: rest) pos) (TB G (b1 && b2) (s1 ∧ (b1 = true → s2))) :=
  pe_weak (pe_and ha hb) fun σ H Q ⟨hg, ⟨h1, h2⟩, z⟩ => ⟨hg, h1, fun H1 S1 => ⟨b1, rfl, by
    cases b1 with
    | false => exact iteF (by simpa using z H1 S1)
    | true => exact iteT ⟨hG _ _ _ hg S1, h2 rfl, fun H2 S2 => by simpa using z H2 (S1.trans S2)⟩⟩⟩
theorem pv_or1 {bb : Bool} (ha : PE X a (TB G bb s)) : PE X (.BoolOp .Or [a] pos) (TB G bb s) := pe_one ha
theorem pv_or {rest : List Expr} {b1 b2 : Bool} (hG : GS G) (ha : PE X a (TB G b1 s1)) (hb : PE X (.BoolOp .Or (b :: rest) pos) (TB G b2 s2)) : PE X (.BoolOp .Or (a :: b :: rest) pos) (TB G (b1 || b2) (s1 ∧ (b1 = false → s2))) :=
  pe_weak (pe_or ha hb) fun σ H Q ⟨hg, ⟨h1, h2⟩, z⟩ => ⟨hg, h1, fun H1 S1 => ⟨b1, rfl, by
    cases b1 with
    | true => exact iteT (by simpa using z H1 S1)
    | false => exact iteF ⟨hG _ _ _ hg S1, h2 rfl, fun H2 S2 => by simpa using z H2 (S1.trans S2)⟩⟩⟩
/-- scalars compared -/
theorem pb_eq {b1 b2 : Bool} (hG : GS G) (hm : behindInMarks .Eq b = false) (ha : PE X a (TB G b1 s1)) (hb : PE X b (TB G b2 s2)) : PE X (.Compare a [.Eq] [b] pos) (TB G (decide (b1 = b2)) (s1 ∧ s2)) :=
  pe_weak (pe_cmpR op_eq ha hb hm) fun σ H Q ⟨hg, ⟨h1, h2⟩, z⟩ => ⟨hg, h1, fun H1 S1 => ⟨hG _ _ _ hg S1, h2, fun H2 S2 => ⟨rfl, by
    rw [show decide (V.bl b1 = V.bl b2) = decide (b1 = b2) by cases b1 <;> cases b2 <;> rfl]; exact z H2 (S1.trans S2)⟩⟩⟩
theorem pb_ne {b1 b2 : Bool} (hG : GS G) (hm : behindInMarks .NotEq b = false) (ha : PE X a (TB G b1 s1)) (hb : PE X b (TB G b2 s2)) : PE X (.Compare a [.NotEq] [b] pos) (TB G (!decide (b1 = b2)) (s1 ∧ s2)) :=
  pe_weak (pe_cmpR op_ne ha hb hm) fun σ H Q ⟨hg, ⟨h1, h2⟩, z⟩ => ⟨hg, h1, fun H1 S1 => ⟨hG _ _ _ hg S1, h2, fun H2 S2 => ⟨rfl, by
    rw [show decide (V.bl b1 = V.bl b2) = decide (b1 = b2) by cases b1 <;> cases b2 <;> rfl]; exact z H2 (S1.trans S2)⟩⟩⟩
theorem pS_eq {x y : Str} (hG : GS G) (hm : behindInMarks .Eq b = false) (ha : PE X a (TS G x s1)) (hb : PE X b (TS G y s2)) : PE X (.Compare a [.Eq] [b] pos) (TB G (decide (x = y)) (s1 ∧ s2)) :=
  pe_weak (pe_cmpR op_eq ha hb hm) fun σ H Q ⟨hg, ⟨h1, h2⟩, z⟩ => ⟨hg, h1, fun H1 S1 => ⟨hG _ _ _ hg S1, h2, fun H2 S2 => ⟨rfl, by
    have e : decide (V.str x = V.str y) = decide (x = y) := by
      by_cases h : x = y
      · rw [h]; simp
      · rw [decide_eq_false h, decide_eq_false (fun z => h (V.str.inj z))]
    rw [e]; exact z H2 (S1.trans S2)⟩⟩⟩
theorem dint {i j : Int} : decide (V.int i = V.int j) = decide (i = j) := by
  by_cases h : i = j
  · rw [h]; simp
  · rw [decide_eq_false h, decide_eq_false (fun z => h (V.int.inj z))]
theorem pI_eq {i j : Int} (hG : GS G) (hm : behindInMarks .Eq b = false) (ha : PE X a (TI G i s1)) (hb : PE X b (TI G j s2)) : PE X (.Compare a [.Eq] [b] pos) (TB G (decide (i = j)) (s1 ∧ s2)) :=
  pe_weak (pe_cmpR op_eq ha hb hm) fun σ H Q ⟨hg, ⟨h1, h2⟩, z⟩ => ⟨hg, h1, fun H1 S1 => ⟨hG _ _ _ hg S1, h2, fun H2 S2 => ⟨rfl, by rw [dint]; exact z H2 (S1.trans S2)⟩⟩⟩
theorem pI_ne {i j : Int} (hG : GS G) (hm : behindInMarks .NotEq b = false) (ha : PE X a (TI G i s1)) (hb : PE X b (TI G j s2)) : PE X (.Compare a [.NotEq] [b] pos) (TB G (!decide (i = j)) (s1 ∧ s2)) :=
  pe_weak (pe_cmpR op_ne ha hb hm) fun σ H Q ⟨hg, ⟨h1, h2⟩, z⟩ => ⟨hg, h1, fun H1 S1 => ⟨hG _ _ _ hg S1, h2, fun H2 S2 => ⟨rfl, by rw [dint]; exact z H2 (S1.trans S2)⟩⟩⟩
theorem pI_le {i j : Int} (hG : GS G) (hm : behindInMarks .LtE b = false) (ha : PE X a (TI G i s1)) (hb : PE X b (TI G j s2)) : PE X (.Compare a [.LtE] [b] pos) (TB G (decide (i ≤ j)) (s1 ∧ s2)) :=
  pe_weak (pe_cmpR op_le ha hb hm) fun σ H Q ⟨hg, ⟨h1, h2⟩, z⟩ => ⟨hg, h1, fun H1 S1 => ⟨hG _ _ _ hg S1, h2, fun H2 S2 => ⟨_, _, rfl, rfl, z H2 (S1.trans S2)⟩⟩⟩
theorem pI_gt {i j : Int} (hG : GS G) (hm : behindInMarks .Gt b = false) (ha : PE X a (TI G i s1)) (hb : PE X b (TI G j s2)) : PE X (.Compare a [.Gt] [b] pos) (TB G (decide (i > j)) (s1 ∧ s2)) :=
  pe_weak (pe_cmpR op_gt ha hb hm) fun σ H Q ⟨hg, ⟨h1, h2⟩, z⟩ => ⟨hg, h1, fun H1 S1 => ⟨hG _ _ _ hg S1, h2, fun H2 S2 => ⟨_, _, rfl, rfl, z H2 (S1.trans S2)⟩⟩⟩
theorem pI_var {i : Nat} {z : Int} (h : PE X e (tVar i)) (g : ∀ σ H, G σ H → σ[i]? = some (some (.int z))) : PE X e (TI G z True) :=
  pe_weak h fun σ H Q ⟨hg, _, w⟩ => ⟨_, g σ H hg, w H (Same.refl _)⟩
theorem pI_int {i j pos} : PE X (.Constant (.int i) j pos) (TI G i True) := pe_weak pe_int fun σ H Q ⟨hg, _, z⟩ => z H (Same.refl _)
theorem pI_add {i j : Int} (hG : GS G) (ha : PE X a (TI G i s1)) (hb : PE X b (TI G j s2)) : PE X (.BinOp a .Add b pos) (TI G (i + j) (s1 ∧ s2)) :=
  pe_weak (pe_op op_add ha hb) fun σ H Q ⟨hg, ⟨h1, h2⟩, z⟩ => ⟨hg, h1, fun H1 S1 => ⟨hG _ _ _ hg S1, h2, fun H2 S2 => ⟨_, _, rfl, rfl, z H2 (S1.trans S2)⟩⟩⟩
end
end SQ

/-! From the class's defs to the rules of expressions. -/
namespace SQ
open PySem PySem.Spec PyProof.Rows L2 SF
/-- a special of the class -/
structure Has (K : PySem.W.Frag) (C : Addr) (name : Str) (f : Addr) : Prop where
  h : PySem.W.findIn K (.ref C) name = some (some (.ref f))
  i : PySem.W.isFn K (.ref f) = true
structure Ne0 (K : PySem.W.Frag) (C : Addr) : Prop where
  h : PySem.W.findIn K (.ref C) "__ne__" = some (some (.builtin "object.__ne__"))
structure NoInt (K : PySem.W.Frag) (C : Addr) : Prop where
  h : PySem.W.subIn K (.type "int") (.ref C) = some false
/-- a def with its promise -/
structure Df (P : Program) (w : World) (K : PySem.W.Frag) (mg : Str → Option Value) (base : Heap) (l : Nat) (ps : List Str) (sp : Sp) where
  f : Addr
  fd : FuncData
  G : FnOk P w K mg base CX0 l f fd ps sp
  b : Binds K fd ps []
def Df.up {P : Program} {w : World} {K : PySem.W.Frag} {mg : Str → Option Value} {base : Heap} {l l' : Nat} {ps : List Str} {sp : Sp} (D : Df P w K mg base l ps sp) (h : l ≤ l') : Df P w K mg base l' ps sp := ⟨D.f, D.fd, D.G.mono h, D.b⟩
section
variable {X : Cx} {C : Addr} {G : L2.St → Hp → Prop} {a b e : Expr} {k k1 k2 : Bool} {l n m : Nat} {q r : Rat} {s s1 s2 : Prop} {pos p1 p2 : Pos} {side : Rat → Rat → Prop} {f : Rat → Rat → Rat} {g : Nat → Nat → Nat} {op : Operator} {ps : List Str}
theorem nv_true {H : Hp} {v : V} (x : NV C H true v n q) : ∃ a, v = .ref a ∧ RQ C H a n q := x
theorem nv_false {H : Hp} {v : V} (x : NV C H false v n q) : ∃ i : Int, v = .int i ∧ q = (i : Rat) := let ⟨i, a, b, _⟩ := x; ⟨i, a, b⟩
theorem op_q (D : Df X.prog X.w X.K X.mg X.base l ps (spM C side f g)) (O : OwnOp X.K C op D.f) (hr : Room l X.A) : OpR X (binaryOp op) (rQ C true k2 side f g) := by
  intro pins st σ H x y v u Q I rx ry h
  obtain ⟨n, m, q, r, nx, ny, hs, hl, z⟩ := h
  refine op_OB (E := E0) O D.G D.b hr pass0 pins st σ H x y v u Q I rx ry ⟨?_, ?_, ?_⟩
  · obtain ⟨a, rfl, y⟩ := nx; exact y.ins
  · exact ny.kind
  · obtain ⟨a, rfl, y'⟩ := nx
    exact ⟨a, k2, y, n, m, q, r, rfl, y', ny, hs, hl, z⟩
theorem op_qR {idl : String} {side' : Rat → Rat → Prop} {f' : Rat → Rat → Rat} {g' : Nat → Nat → Nat} {fa : Addr} (N : IntNo op idl) (D : Df X.prog X.w X.K X.mg X.base l ps (spM C side' f' g')) (O : OwnOpR X.K C op fa D.f) (hr : Room l X.A)
    (es : ∀ q r, side q r → side' r q) (ef : ∀ q r, f' r q = f q r) (eg : ∀ n m, g' m n = g n m) : OpR X (binaryOp op) (rQ C false true side f g) := by
  intro pins st σ H x y v u Q I rx ry h
  obtain ⟨n, m, q, r, nx, ny, hs, hl, z⟩ := h
  obtain ⟨i, e1, e2⟩ := nv_false nx
  obtain ⟨a, e3, y'⟩ := nv_true ny
  refine op_OBR (E := E0) N O D.G D.b hr pass0 pins st σ H x y v u Q I rx ry ⟨⟨i, e1⟩, ?_, ?_⟩
  · rw [e3]; exact y'.ins
  · rw [e3]
    refine ⟨a, false, x, m, n, r, q, rfl, y', nx, es q r hs, by rw [eg]; exact hl, fun p H' S rq => z p H' S ?_⟩
    rw [eg, ef] at rq
    exact rq
theorem un_q {sd : Rat → Prop} {f1 : Rat → Rat} (D : Df X.prog X.w X.K X.mg X.base l ps (sp1 C sd f1)) (hs : Has X.K C "__neg__" D.f) (hr : Room l X.A) : UnR X (unaryOp .USub) (rQ1 C sd f1) := by
  intro pins st σ H x v Q I rx h
  obtain ⟨n, q, nx, hs', hl, z⟩ := h
  obtain ⟨a, rfl, y'⟩ := nv_true nx
  exact un_ON (E := E0) hs.h hs.i D.G D.b hr pass0 pins st σ H _ v Q I rx ⟨y'.ins, a, n, q, rfl, y', hs', hl, z⟩
theorem pq_abs {x : Str} {sd : Rat → Prop} {f1 : Rat → Rat} (D : Df X.prog X.w X.K X.mg X.base l ps (sp1 C sd f1)) (hs : Has X.K C "__abs__" D.f) (hr : Room (l + 1) X.A)
    (hg : Gl X x) (hm : X.mg x = none) (hv : bootBuiltins x = some (.builtin "abs")) (ha : PE X a (TQ C G true n q s)) (hn : x ≠ "__name__" := by decide) (hdb : (x == ("__debug__" : Str)) = false := by decide)
    (he : starEach (a :: []) X.env = (false, eval a X.env) :: starEach [] X.env := by rfl) (hpl : (backTo pos (starEach [] X.env)).any (·.1) = false := by rfl) : PE X (.Call (.Name x p1) [a] [] pos) (TQ C G true n (f1 q) (s ∧ sd q ∧ n ≤ LIM)) :=
  pe_weak (pe_callB (call_absOwn (E := E0) hs.h hs.i D.G D.b hr pass0) hg hm hv (pa_cons ha pa_nil he) hn hdb he hpl) fun σ H Q ⟨hg, ⟨h1, h2, h3⟩, z⟩ =>
    ⟨hg, h1, fun v H1 S1 nv => by
      obtain ⟨a, rfl, y'⟩ := nv_true nv
      exact ⟨_, rfl, y'.ins, a, n, q, rfl, y', h2, h3, fun p H2 S2 rq => z _ H2 (S1.trans S2) rq.nv⟩⟩
/-! #### comparisons -/
section
variable {fld : Str}
theorem RC.typ {K : PySem.W.Frag} {mg : Str → Option Value} {H : Hp} {a : Addr} {t b : Int} (T : RC K mg C) (r : RatH C H a t b) : TyX K H (.ref a) (.ref C) := let ⟨dx, e⟩ := r; .base (.ins e T.cl T.ca T.cn T.ct T.cm)
theorem nfC {K : PySem.W.Frag} : PySem.W.notFirst K C (.ref C) = true := by simp [PySem.W.notFirst]
theorem nfI {K : PySem.W.Frag} (h : PySem.W.subIn K (.type "int") (.ref C) = some false) : PySem.W.notFirst K C (.type "int") = true := by
  unfold PySem.W.notFirst
  rw [h]
  simp
theorem nv_ty {K : PySem.W.Frag} {mg : Str → Option Value} {H : Hp} {v : V} (T : RC K mg C) (hi : PySem.W.subIn K (.type "int") (.ref C) = some false) (x : NV C H k v n q) : ∃ tb, TyX K H v tb ∧ PySem.W.notFirst K C tb = true := by
  cases k with
  | true => obtain ⟨a, rfl, y⟩ := x; exact ⟨_, T.typ y.1, nfC⟩
  | false => obtain ⟨i, rfl, _⟩ := x; exact ⟨_, .base (.int i), nfI hi⟩
theorem op_eqq (T : RC X.K X.mg C) (hi : NoInt X.K C) (D : Df X.prog X.w X.K X.mg X.base l ps (spEq C)) (hs : Has X.K C "__eq__" D.f) (hr : Room l X.A) :
    OpR X (compareOp .Eq) (rQe C k2 fun q r => decide (q = r)) := by
  intro pins st σ H x y v u Q I rx ry h
  obtain ⟨n, m, q, r, nx, ny, z⟩ := h
  obtain ⟨a, rfl, y'⟩ := nv_true nx
  obtain ⟨tb, hty, hnf⟩ := nv_ty T hi.h ny
  obtain ⟨⟨dx, ea⟩, _⟩ := id y'
  exact op_ownL (op := .Eq) (E := E0) (fun _ _ => rfl) hs.h hs.i D.G D.b hr pass0 pins st σ H _ y v u Q I rx ry ⟨a, dx, _, tb, rfl, ea, hty, hnf, a, n, q, y, rfl, y', .inl ⟨k2, m, r, ny, z⟩⟩
theorem op_neq (T : RC X.K X.mg C) (hi : NoInt X.K C) (D : Df X.prog X.w X.K X.mg X.base l ps (spEq C)) (hne : Ne0 X.K C) (hs : Has X.K C "__eq__" D.f) (hr : Room (l + 1) X.A) : OpR X (compareOp .NotEq) (rQe C k2 fun q r => !decide (q = r)) := by
  intro pins st σ H x y v u Q I rx ry h
  obtain ⟨n, m, q, r, nx, ny, z⟩ := h
  obtain ⟨a, rfl, y'⟩ := nv_true nx
  obtain ⟨tb, hty, hnf⟩ := nv_ty T hi.h ny
  obtain ⟨⟨dx, ea⟩, _⟩ := id y'
  exact op_ownNeL (E := E0) hne.h T.cm hs.h hs.i D.G D.b hr pass0 pins st σ H _ y v u Q I rx ry ⟨a, dx, _, tb, rfl, ea, hty, hnf, a, n, q, y, rfl, y', .inl ⟨k2, m, r, ny, _, rfl, z⟩⟩
end
/-! #### e.top, e.bottom, str(e), repr(e), bool(e) -/
theorem pI_top {p : Addr} {ps : List Str} (T : Cls X.K C) (D : Df X.prog X.w X.K X.mg X.base l ps (getSp C "_top")) (hp : PropOf X.K C "top" p D.f) (hr : Room (l + 1) X.A) (ha : PE X a (TQ C G true n q s))
    (hab : attributeBase a "top" X.env (eval a X.env) = eval a X.env := by rfl) : PE X (.Attribute a "top" pos) (TI G q.num s) :=
  pe_weak (pe_prop (E := E0) ha T hp D.G hr D.b .nil pass0 hab) fun σ H Q ⟨hg, h1, z⟩ => ⟨hg, h1, fun v H1 S1 nv => by
    obtain ⟨a, rfl, ⟨dx, e⟩, _⟩ := nv_true nv
    exact ⟨a, dx, _, rfl, e, a, dx, _, _, rfl, e, rf_top _ _, z H1 S1⟩⟩
theorem pI_bot {p : Addr} {ps : List Str} (T : Cls X.K C) (D : Df X.prog X.w X.K X.mg X.base l ps (getSp C "_bottom")) (hp : PropOf X.K C "bottom" p D.f) (hr : Room (l + 1) X.A) (ha : PE X a (TQ C G true n q s))
    (hab : attributeBase a "bottom" X.env (eval a X.env) = eval a X.env := by rfl) : PE X (.Attribute a "bottom" pos) (TI G (q.den : Int) s) :=
  pe_weak (pe_prop (E := E0) ha T hp D.G hr D.b .nil pass0 hab) fun σ H Q ⟨hg, h1, z⟩ => ⟨hg, h1, fun v H1 S1 nv => by
    obtain ⟨a, rfl, ⟨dx, e⟩, _⟩ := nv_true nv
    exact ⟨a, dx, _, rfl, e, a, dx, _, _, rfl, e, rf_bot _ _, z H1 S1⟩⟩
theorem pS_str {x : Str} (D : Df X.prog X.w X.K X.mg X.base l ps (spStr C)) (hs : Has X.K C "__str__" D.f) (hr : Room (l + 2) X.A)
    (hg : Gl X x) (hm : X.mg x = none) (hv : bootBuiltins x = some (.type "str")) (ha : PE X a (TQ C G true n q s)) (hn : x ≠ "__name__" := by decide) (hdb : (x == ("__debug__" : Str)) = false := by decide)
    (he : starEach (a :: []) X.env = (false, eval a X.env) :: starEach [] X.env := by rfl) (hpl : (backTo pos (starEach [] X.env)).any (·.1) = false := by rfl) : PE X (.Call (.Name x p1) [a] [] pos) (TS G (rstr q) (s ∧ n ≤ 1900)) :=
  pe_weak (pe_callTy (call_strOwn (E := E0) hs.h hs.i D.G D.b hr pass0) hg hm hv (pa_cons ha pa_nil he) hn hdb he hpl) fun σ H Q ⟨hg, ⟨h1, h2⟩, z⟩ =>
    ⟨hg, h1, fun v H1 S1 nv => by
      obtain ⟨a, rfl, y'⟩ := nv_true nv
      obtain ⟨⟨dx, e⟩, _⟩ := id y'
      exact ⟨a, dx, _, rfl, e, a, n, q, rfl, y', h2, _, rfl, z H1 S1⟩⟩
theorem pS_repr {x : Str} (D : Df X.prog X.w X.K X.mg X.base l ps (spRepr C)) (hs : Has X.K C "__repr__" D.f) (hr : Room (l + 1) X.A)
    (hg : Gl X x) (hm : X.mg x = none) (hv : bootBuiltins x = some (.builtin "repr")) (ha : PE X a (TQ C G true n q s)) (hn : x ≠ "__name__" := by decide) (hdb : (x == ("__debug__" : Str)) = false := by decide)
    (he : starEach (a :: []) X.env = (false, eval a X.env) :: starEach [] X.env := by rfl) (hpl : (backTo pos (starEach [] X.env)).any (·.1) = false := by rfl) : PE X (.Call (.Name x p1) [a] [] pos) (TS G (rrepr q) (s ∧ n ≤ 1900)) :=
  pe_weak (pe_callB (call_reprOwn (E := E0) hs.h hs.i D.G D.b hr pass0) hg hm hv (pa_cons ha pa_nil he) hn hdb he hpl) fun σ H Q ⟨hg, ⟨h1, h2⟩, z⟩ =>
    ⟨hg, h1, fun v H1 S1 nv => by
      obtain ⟨a, rfl, y'⟩ := nv_true nv
      obtain ⟨⟨dx, e⟩, _⟩ := id y'
      exact ⟨a, dx, _, rfl, e, a, n, q, rfl, y', h2, _, rfl, z H1 S1⟩⟩
theorem pb_bool {x : Str} (D : Df X.prog X.w X.K X.mg X.base l ps (spBool C)) (hs : Has X.K C "__bool__" D.f) (hr : Room (l + 2) X.A)
    (hg : Gl X x) (hm : X.mg x = none) (hv : bootBuiltins x = some (.type "bool")) (ha : PE X a (TQ C G true n q s)) (hn : x ≠ "__name__" := by decide) (hdb : (x == ("__debug__" : Str)) = false := by decide)
    (he : starEach (a :: []) X.env = (false, eval a X.env) :: starEach [] X.env := by rfl) (hpl : (backTo pos (starEach [] X.env)).any (·.1) = false := by rfl) : PE X (.Call (.Name x p1) [a] [] pos) (TB G (decide (q ≠ 0)) s) :=
  pe_weak (pe_callTy (call_boolOwn (E := E0) hs.h hs.i D.G D.b hr pass0) hg hm hv (pa_cons ha pa_nil he) hn hdb he hpl) fun σ H Q ⟨hg, h1, z⟩ =>
    ⟨hg, h1, fun v H1 S1 nv => by
      obtain ⟨a, rfl, y'⟩ := nv_true nv
      obtain ⟨⟨dx, e⟩, _⟩ := id y'
      exact ⟨a, dx, _, rfl, e, a, n, q, rfl, y', _, rfl, z H1 S1⟩⟩
/-! #### methods -/
theorem pq_over {pl : Sem Bool} {o : Expr} {apos : Pos} (c : Cls X.K C) (D : Df X.prog X.w X.K X.mg X.base l ps (spM C side f g)) (hm : Meth X.K C "over" D.f) (hr : Room l X.A) (hG : GS G) (ho : PE X o (TQ C G true n q s1)) (ha : PE X a (TQ C G k2 m r s2))
    (hst : starEach (a :: []) X.env = (false, eval a X.env) :: starEach [] X.env := by rfl) (hpl : (backTo pos (starEach [] X.env)).any (·.1) = false := by rfl)
    (ht : eval (.Call (.Attribute o "over" apos) [a] [] pos) X.env = (do
      let ov ← eval o X.env
      standAt apos.atName
      let (f, first) ← holding [ov] (getMethod ov "over" pl)
      callWith pos f first (backTo pos (starEach (a :: []) X.env)) (backToKw pos (keywordEach [] X.env))) := by rfl) : PE X (.Call (.Attribute o "over" apos) [a] [] pos) (TQ C G true (g n m) (f q r) (s1 ∧ s2 ∧ side q r ∧ g n m ≤ LIM)) :=
  pe_weak (pe_meth (pl := pl) (E := E0) ho c hm D.G hr D.b .nil pass0 (pa_cons ha pa_nil hst) hst hpl ht) fun σ H Q ⟨hg, ⟨h1, h2, h3, h4⟩, z⟩ =>
    ⟨hg, h1, fun v H1 S1 nv => by
      obtain ⟨a, rfl, y'⟩ := nv_true nv
      obtain ⟨⟨dx, e⟩, _⟩ := id y'
      exact ⟨a, dx, _, rfl, e, rf_no _ _ (by decide +kernel) (by decide +kernel), hG _ _ _ hg S1, h2, fun u H2 S2 nu => ⟨a, k2, u, n, m, q, r, rfl, y'.same S2, nu, h3, h4, fun p H3 S3 rq => z _ H3 ((S1.trans S2).trans S3) rq.nv⟩⟩⟩
theorem pq_power {pl : Sem Bool} {o : Expr} {apos : Pos} {i : Int} (c : Cls X.K C) (D : Df X.prog X.w X.K X.mg X.base l ps (spPow C)) (hm : Meth X.K C "power" D.f) (hr : Room l X.A) (hG : GS G) (ho : PE X o (TQ C G true n q s1)) (ha : PE X a (TI G i s2))
    (hst : starEach (a :: []) X.env = (false, eval a X.env) :: starEach [] X.env := by rfl) (hpl : (backTo pos (starEach [] X.env)).any (·.1) = false := by rfl)
    (ht : eval (.Call (.Attribute o "power" apos) [a] [] pos) X.env = (do
      let ov ← eval o X.env
      standAt apos.atName
      let (f, first) ← holding [ov] (getMethod ov "power" pl)
      callWith pos f first (backTo pos (starEach (a :: []) X.env)) (backToKw pos (keywordEach [] X.env))) := by rfl) : PE X (.Call (.Attribute o "power" apos) [a] [] pos) (TQ C G true (n * i.natAbs + 1) (q ^ i) (s1 ∧ s2 ∧ -20 ≤ i ∧ i ≤ 20 ∧ (q ≠ 0 ∨ 0 ≤ i) ∧ n * i.natAbs + 1 ≤ LIM ∧ n ≤ LIM)) :=
  pe_weak (pe_meth (pl := pl) (E := E0) ho c hm D.G hr D.b .nil pass0 (pa_cons ha pa_nil hst) hst hpl ht) fun σ H Q ⟨hg, ⟨h1, h2, h3⟩, z⟩ =>
    ⟨hg, h1, fun v H1 S1 nv => by
      obtain ⟨a, rfl, y'⟩ := nv_true nv
      obtain ⟨⟨dx, e⟩, _⟩ := id y'
      obtain ⟨h31, h32, h33, h34, h35⟩ := h3
      exact ⟨a, dx, _, rfl, e, rf_no _ _ (by decide +kernel) (by decide +kernel), hG _ _ _ hg S1, h2, fun H2 S2 => ⟨a, n, q, i, rfl, y'.same S2, h31, h32, h33, h34, h35, fun p H3 S3 rq => z _ H3 ((S1.trans S2).trans S3) rq.nv⟩⟩⟩
/-- a ** i -/
theorem pq_pow {i : Int} (D : Df X.prog X.w X.K X.mg X.base l ps (spPow C)) (O : OwnOp X.K C .Pow D.f) (hr : Room l X.A) (hG : GS G) (ha : PE X a (TQ C G true n q s1)) (hb : PE X b (TI G i s2)) :
    PE X (.BinOp a .Pow b pos) (TQ C G true (n * i.natAbs + 1) (q ^ i) (s1 ∧ s2 ∧ -20 ≤ i ∧ i ≤ 20 ∧ (q ≠ 0 ∨ 0 ≤ i) ∧ n * i.natAbs + 1 ≤ LIM ∧ n ≤ LIM)) :=
  pe_weak (pe_op (op_OB (E := E0) O D.G D.b hr pass0) ha hb) fun σ H Q ⟨hg, ⟨h1, h2, h3⟩, z⟩ =>
    ⟨hg, h1, fun v H1 S1 nv => by
      obtain ⟨a, rfl, y'⟩ := nv_true nv
      obtain ⟨h31, h32, h33, h34, h35⟩ := h3
      exact ⟨hG _ _ _ hg S1, h2, fun H2 S2 => ⟨(y'.same S2).ins, .inr ⟨i, rfl⟩, a, n, q, i, rfl, y'.same S2, h31, h32, h33, h34, h35, fun p H3 S3 rq => z _ H3 ((S1.trans S2).trans S3) rq.nv⟩⟩⟩
/-- Ratio(e, f) -/
theorem pq_make {x : Str} {i j : Int} {p : Addr} {fd : FuncData} (M : Mk X.K C p) (F : FnOk X.prog X.w X.K X.mg X.base CX0 l p fd ["self", "top", "bottom"] (spInit C)) (hb : Binds X.K fd ["self", "top", "bottom"] []) (hr : Room (l + 1) X.A) (hg : Gl X x) (hm : X.mg x = some (.ref C)) (hG : GS G)
    (ha : PE X a (TI G i s1)) (hb' : PE X b (TI G j s2)) (hi : i.natAbs < 2 ^ n) (hj : j.natAbs < 2 ^ n) (hdb : (x == ("__debug__" : Str)) = false := by decide)
    (he : starEach (a :: [b]) X.env = (false, eval a X.env) :: starEach [b] X.env := by rfl) (he2 : starEach (b :: []) X.env = (false, eval b X.env) :: starEach [] X.env := by rfl) (hpl : (backTo pos (starEach [b] X.env)).any (·.1) = false := by rfl) :
    PE X (.Call (.Name x p1) [a, b] [] pos) (TQ C G true n (Rat.divInt i j) (s1 ∧ s2 ∧ j ≠ 0 ∧ n ≤ LIM)) :=
  pe_weak (pe_make (E := E0) M F hr hg hm hb .nil pass0 (pa_cons ha (pa_cons hb' pa_nil he2) he) hdb he hpl) fun σ H Q ⟨hg, ⟨h1, h2, h3, h4⟩, z⟩ =>
    ⟨hg, h1, fun H1 S1 => ⟨hG _ _ _ hg S1, h2, fun H2 S2 x dx hx hd hn => mk_fin hx hd hn h3 hi hj h4 fun H3 S3 rq => ⟨rfl, z _ H3 ((S1.trans S2).trans S3) rq.nv⟩⟩⟩
end
end SQ

/-! Slots that hold fractions and ints. -/
namespace SQ
open PySem PySem.Spec PyProof.Rows L2 SF
/-- the pair of numerator and denominator stands at p, as a tuple -/
def PQ (H : Hp) (p : Addr) (n : Nat) (q : Rat) : Prop := H p = some (.tup [.int q.num, .int (q.den : Int)]) ∧ Sz n q
inductive Sl where
  | fr (n : Nat) (r : Rat)
  | nv (k : Bool) (n : Nat) (r : Rat)
  | i (z : Int)
  | pr (n : Nat) (r : Rat)
  | ls (l : List PySem.Str)
  | any
def Sl.ok (C : Addr) (H : Hp) : Sl → Option V → Prop
  | .fr n r, o => ∃ a, o = some (.ref a) ∧ RQ C H a n r
  | .nv k n r, o => ∃ v, o = some v ∧ NV C H k v n r
  | .i z, o => o = some (.int z)
  | .pr n r, o => ∃ p, o = some (.ref p) ∧ PQ H p n r
  | .ls l, o => ∃ p, o = some (.ref p) ∧ H p = some (.lst (l.map V.str))
  | .any, _ => True
def Env (C : Addr) : List Sl → L2.St → Hp → Prop
  | [], _, _ => True
  | s :: L, o :: σ, H => s.ok C H o ∧ Env C L σ H
  | _ :: _, [], _ => False
theorem Sl.same {C : Addr} {H H' : Hp} {s : Sl} {o : Option V} (h : s.ok C H o) (S : Same H H') : s.ok C H' o := by
  cases s with
  | fr n q => obtain ⟨a, e, r⟩ := h; exact ⟨a, e, r.same S⟩
  | nv k n q => obtain ⟨v, e, r⟩ := h; exact ⟨v, e, r.same S⟩
  | i z => exact h
  | pr n q => obtain ⟨p, e, r, z⟩ := h; exact ⟨p, e, S _ _ r, z⟩
  | ls l => obtain ⟨p, e, r⟩ := h; exact ⟨p, e, S _ _ r⟩
  | any => trivial
theorem Env.gs {C : Addr} : ∀ {L : List Sl}, GS (Env C L)
  | [], _, _, _, _, _ => trivial
  | _ :: L, _ :: σ, H, H', h, S => ⟨Sl.same h.1 S, Env.gs σ H H' h.2 S⟩
  | _ :: _, [], _, _, h, _ => h
theorem Env.at {C : Addr} : ∀ {L : List Sl} {σ : L2.St} {H : Hp} {j : Nat} {s : Sl}, Env C L σ H → L[j]? = some s → ∃ o, σ[j]? = some o ∧ s.ok C H o
  | _ :: _, o :: _, _, 0, s, h, e => by cases e; exact ⟨o, rfl, h.1⟩
  | _ :: L, _ :: σ, H, j + 1, s, h, e => by
    obtain ⟨o, e1, e2⟩ := Env.at (L := L) (σ := σ) (H := H) (j := j) h.2 e
    exact ⟨o, e1, e2⟩
  | [], _, _, _, _, _, e => by cases e
  | _ :: _, [], _, _, _, h, _ => h.elim
section
variable {X : Cx} {C : Addr} {G : L2.St → Hp → Prop} {a b e : Expr} {k k1 k2 : Bool} {n m : Nat} {q r : Rat} {s s1 s2 : Prop} {pos p1 p2 : Pos} {i j : Int}
/-- slot j holds a fraction -/
theorem vq (L : List Sl) (j : Nat) (h : PE X e (tVar j)) (hL : L[j]? = some (.fr n q)) : PE X e (TQ C (Env C L) true n q True) :=
  pq_var h fun σ H g => by
    obtain ⟨o, e1, a, rfl, r⟩ := g.at hL
    exact ⟨_, e1, r.nv⟩
theorem vnv (L : List Sl) (j : Nat) (h : PE X e (tVar j)) (hL : L[j]? = some (.nv k n q)) : PE X e (TQ C (Env C L) k n q True) :=
  pq_var h fun σ H g => by
    obtain ⟨o, e1, v, rfl, r⟩ := g.at hL
    exact ⟨_, e1, r⟩
theorem vi (L : List Sl) (j : Nat) {z : Int} (h : PE X e (tVar j)) (hL : L[j]? = some (.i z)) : PE X e (TI (Env C L) z True) :=
  pI_var h fun σ H g => by
    obtain ⟨o, e1, e2⟩ := g.at hL
    rw [e1, show o = some (.int z) from e2]
theorem pI_mul (hG : GS G) (ha : PE X a (TI G i s1)) (hb : PE X b (TI G j s2)) : PE X (.BinOp a .Mult b pos) (TI G (i * j) (s1 ∧ s2 ∧ CMulW i j)) :=
  pe_weak (pe_op op_mulW ha hb) fun σ H Q ⟨hg, ⟨h1, h2, h3⟩, z⟩ => ⟨hg, h1, fun H1 S1 => ⟨hG _ _ _ hg S1, h2, fun H2 S2 => ⟨_, _, rfl, rfl, h3, z H2 (S1.trans S2)⟩⟩⟩
theorem pI_sub (hG : GS G) (ha : PE X a (TI G i s1)) (hb : PE X b (TI G j s2)) : PE X (.BinOp a .Sub b pos) (TI G (i - j) (s1 ∧ s2)) :=
  pe_weak (pe_op op_sub ha hb) fun σ H Q ⟨hg, ⟨h1, h2⟩, z⟩ => ⟨hg, h1, fun H1 S1 => ⟨hG _ _ _ hg S1, h2, fun H2 S2 => ⟨_, _, rfl, rfl, z H2 (S1.trans S2)⟩⟩⟩
theorem pI_fdiv (hG : GS G) (ha : PE X a (TI G i s1)) (hb : PE X b (TI G j s2)) : PE X (.BinOp a .FloorDiv b pos) (TI G (i.fdiv j) (s1 ∧ s2 ∧ CDivZ i j)) :=
  pe_weak (pe_op op_fdivZ ha hb) fun σ H Q ⟨hg, ⟨h1, h2, h3⟩, z⟩ => ⟨hg, h1, fun H1 S1 => ⟨hG _ _ _ hg S1, h2, fun H2 S2 => ⟨_, _, rfl, rfl, h3, z H2 (S1.trans S2)⟩⟩⟩
theorem pI_neg (ha : PE X a (TI G i s1)) : PE X (.UnaryOp .USub a pos) (TI G (-i) s1) :=
  pe_weak (pe_un un_neg ha) fun σ H Q ⟨hg, h1, z⟩ => ⟨hg, h1, fun H1 S1 => ⟨_, rfl, z H1 S1⟩⟩
/-- e._top, e._bottom, read within the class -/
theorem pI_ftop (T : Cls X.K C) (hN : NoAttr X.K C "_top") (ha : PE X a (TQ C G true n q s)) (hab : attributeBase a "_top" X.env (eval a X.env) = eval a X.env := by rfl) : PE X (.Attribute a "_top" pos) (TI G q.num s) :=
  pe_weak (pe_fld ha hab) fun σ H Q ⟨hg, h1, z⟩ => ⟨hg, h1, fun v H1 S1 nv => by
    obtain ⟨a, rfl, ⟨dx, e⟩, _⟩ := nv_true nv
    exact ⟨a, C, dx, _, _, rfl, e, T, hN, rf_top _ _, z H1 S1⟩⟩
theorem pI_fbot (T : Cls X.K C) (hN : NoAttr X.K C "_bottom") (ha : PE X a (TQ C G true n q s)) (hab : attributeBase a "_bottom" X.env (eval a X.env) = eval a X.env := by rfl) : PE X (.Attribute a "_bottom" pos) (TI G (q.den : Int) s) :=
  pe_weak (pe_fld ha hab) fun σ H Q ⟨hg, h1, z⟩ => ⟨hg, h1, fun v H1 S1 nv => by
    obtain ⟨a, rfl, ⟨dx, e⟩, _⟩ := nv_true nv
    exact ⟨a, C, dx, _, _, rfl, e, T, hN, rf_bot _ _, z H1 S1⟩⟩
theorem pI_abs {x : Str} (hg : Gl X x) (hm : X.mg x = none) (hv : bootBuiltins x = some (.builtin "abs")) (ha : PE X a (TI G i s)) (hn : x ≠ "__name__" := by decide) (hdb : (x == ("__debug__" : Str)) = false := by decide)
    (he : starEach (a :: []) X.env = (false, eval a X.env) :: starEach [] X.env := by rfl) (hpl : (backTo pos (starEach [] X.env)).any (·.1) = false := by rfl) : PE X (.Call (.Name x p1) [a] [] pos) (TI G (if i < 0 then -i else i) s) :=
  pe_weak (pe_callB call_abs hg hm hv (pa_cons ha pa_nil he) hn hdb he hpl) fun σ H Q ⟨hg, h1, z⟩ => ⟨hg, h1, fun H1 S1 => ⟨i, rfl, z H1 S1⟩⟩
/-- a call of an own def: of two fractions -/
theorem pq_call2 {l : Nat} {x : Str} {D : Addr} {fd : FuncData} {ps : List Str} {side : Rat → Rat → Prop} {f : Rat → Rat → Rat} {g : Nat → Nat → Nat} (F : FnOk X.prog X.w X.K X.mg X.base CX0 l D fd ps (sp2 C side f g)) (hr : Room l X.A) (hg : Gl X x) (hm : X.mg x = some (.ref D)) (hk : PySem.W.keepIn X.K (.ref D) = true) (hb : Binds X.K fd ps []) (hG : GS G)
    (ha : PE X a (TQ C G true n q s1)) (hb' : PE X b (TQ C G true m r s2)) (hdb : (x == ("__debug__" : Str)) = false := by decide)
    (he : starEach (a :: [b]) X.env = (false, eval a X.env) :: starEach [b] X.env := by rfl) (he2 : starEach (b :: []) X.env = (false, eval b X.env) :: starEach [] X.env := by rfl) (hpl : (backTo pos (starEach [b] X.env)).any (·.1) = false := by rfl) :
    PE X (.Call (.Name x p1) [a, b] [] pos) (TQ C G true (g n m) (f q r) (s1 ∧ s2 ∧ side q r ∧ g n m ≤ LIM)) :=
  pe_weak (pe_call (E := E0) F hr hg hm hk hb .nil pass0 (pa_cons ha (pa_cons hb' pa_nil he2) he) hdb he hpl) fun σ H Q ⟨hg, ⟨h1, h2, h3, h4⟩, z⟩ =>
    ⟨hg, h1, fun v H1 S1 nv => ⟨hG _ _ _ hg S1, h2, fun u H2 S2 nu => by
      obtain ⟨a, rfl, y⟩ := nv_true nv
      obtain ⟨b, rfl, y'⟩ := nv_true nu
      exact ⟨a, b, n, m, q, r, rfl, y.same S2, y', h3, h4, fun p H3 S3 rq => z _ H3 ((S1.trans S2).trans S3) rq.nv⟩⟩⟩
/-- .. of one -/
theorem pq_call1 {l : Nat} {x : Str} {D : Addr} {fd : FuncData} {ps : List Str} {sd : Rat → Prop} {f : Rat → Rat} (F : FnOk X.prog X.w X.K X.mg X.base CX0 l D fd ps (sp1 C sd f)) (hr : Room l X.A) (hg : Gl X x) (hm : X.mg x = some (.ref D)) (hk : PySem.W.keepIn X.K (.ref D) = true) (hb : Binds X.K fd ps [])
    (ha : PE X a (TQ C G true n q s1)) (hdb : (x == ("__debug__" : Str)) = false := by decide)
    (he : starEach (a :: []) X.env = (false, eval a X.env) :: starEach [] X.env := by rfl) (hpl : (backTo pos (starEach [] X.env)).any (·.1) = false := by rfl) :
    PE X (.Call (.Name x p1) [a] [] pos) (TQ C G true n (f q) (s1 ∧ sd q ∧ n ≤ LIM)) :=
  pe_weak (pe_call (E := E0) F hr hg hm hk hb .nil pass0 (pa_cons ha pa_nil he) hdb he hpl) fun σ H Q ⟨hg, ⟨h1, h2, h3⟩, z⟩ =>
    ⟨hg, h1, fun v H1 S1 nv => by
      obtain ⟨a, rfl, y⟩ := nv_true nv
      exact ⟨a, n, q, rfl, y, h2, h3, fun p H3 S3 rq => z _ H3 (S1.trans S3) rq.nv⟩⟩
/-- _as_ratio(e) -/
theorem pq_callA {l : Nat} {x : Str} {D : Addr} {fd : FuncData} {ps : List Str} (F : FnOk X.prog X.w X.K X.mg X.base CX0 l D fd ps (spAs C)) (hr : Room l X.A) (hg : Gl X x) (hm : X.mg x = some (.ref D)) (hk : PySem.W.keepIn X.K (.ref D) = true) (hb : Binds X.K fd ps [])
    (ha : PE X a (TQ C G k n q s1)) (hdb : (x == ("__debug__" : Str)) = false := by decide)
    (he : starEach (a :: []) X.env = (false, eval a X.env) :: starEach [] X.env := by rfl) (hpl : (backTo pos (starEach [] X.env)).any (·.1) = false := by rfl) :
    PE X (.Call (.Name x p1) [a] [] pos) (TQ C G true n q (s1 ∧ n ≤ LIM)) :=
  pe_weak (pe_call (E := E0) F hr hg hm hk hb .nil pass0 (pa_cons ha pa_nil he) hdb he hpl) fun σ H Q ⟨hg, ⟨h1, h2⟩, z⟩ =>
    ⟨hg, h1, fun v H1 S1 nv => ⟨v, k, n, q, rfl, nv, h2, fun p H3 S3 rq => z _ H3 (S1.trans S3) rq.nv⟩⟩
/-- is_number(e), e a number -/
theorem pb_num {l : Nat} {x : Str} {D : Addr} {fd : FuncData} {ps : List Str} (F : FnOk X.prog X.w X.K X.mg X.base CX0 l D fd ps (spIsN C)) (hr : Room l X.A) (hg : Gl X x) (hm : X.mg x = some (.ref D)) (hk : PySem.W.keepIn X.K (.ref D) = true) (hb : Binds X.K fd ps [])
    (ha : PE X a (TQ C G k n q s1)) (hdb : (x == ("__debug__" : Str)) = false := by decide)
    (he : starEach (a :: []) X.env = (false, eval a X.env) :: starEach [] X.env := by rfl) (hpl : (backTo pos (starEach [] X.env)).any (·.1) = false := by rfl) :
    PE X (.Call (.Name x p1) [a] [] pos) (TB G true s1) :=
  pe_weak (pe_call (E := E0) F hr hg hm hk hb .nil pass0 (pa_cons ha pa_nil he) hdb he hpl) fun σ H Q ⟨hg, h1, z⟩ =>
    ⟨hg, h1, fun v H1 S1 nv => ⟨v, rfl, by
      cases k with
      | true => obtain ⟨a, rfl, y⟩ := nv_true nv; exact .inr ⟨y.ins, z H1 S1⟩
      | false => obtain ⟨i, rfl, _⟩ := nv; exact .inl ⟨_, .int i, z H1 S1⟩⟩⟩
/-- return e -/
theorem qs_ret {C : Addr} {n : Nat} {q : Rat} {σ : L2.St} {H : Hp} {D : Ends} (hg : G σ H) (hs : s) (z : ∀ p H', Same H H' → RQ C H' p n q → D.rt (.ref p) H') : tRet (TQ C G true n q s) D σ H :=
  ⟨hg, hs, fun v H' S nv => by obtain ⟨a, rfl, y⟩ := nv_true nv; exact z a H' S y⟩
end
end SQ
namespace SQ
open PySem PySem.Spec PyProof.Rows L2 SF
section
variable {X : Cx} {C : Addr} {G : L2.St → Hp → Prop} {a b e : Expr} {k k1 k2 : Bool} {n m : Nat} {q r : Rat} {s s1 s2 : Prop} {pos p1 p2 : Pos} {i j : Int}
/-- Ratio(e): the bottom is 1 -/
theorem pq_make1 {l : Nat} {x : Str} {p : Addr} {fd : FuncData} {ds : List Value} (M : Mk X.K C p) (F : FnOk X.prog X.w X.K X.mg X.base CX0 l p fd ["self", "top", "bottom"] (spInit C)) (hb : Binds X.K fd ["self", "top", "bottom"] ds) (hd : Vals [V.int 1] ds) (hr : Room (l + 1) X.A) (hg : Gl X x) (hm : X.mg x = some (.ref C))
    (ha : PE X a (TI G i s1)) (hi : i.natAbs < 2 ^ n) (h0 : 0 < n) (hdb : (x == ("__debug__" : Str)) = false := by decide)
    (he : starEach (a :: []) X.env = (false, eval a X.env) :: starEach [] X.env := by rfl) (hpl : (backTo pos (starEach [] X.env)).any (·.1) = false := by rfl) :
    PE X (.Call (.Name x p1) [a] [] pos) (TQ C G true n (i : Rat) (s1 ∧ n ≤ LIM)) :=
  pe_weak (pe_make (E := E0) M F hr hg hm hb hd pass0 (pa_cons ha pa_nil he) hdb he hpl) fun σ H Q ⟨hg, ⟨h1, h4⟩, z⟩ =>
    ⟨hg, h1, fun H1 S1 x dx hx hd hn => mk_fin hx hd hn (by decide) hi (Nat.one_lt_two_pow (by omega)) h4 fun H3 S3 rq => ⟨rfl, z _ H3 (S1.trans S3) (by rw [int_is] at rq; exact rq.nv)⟩⟩
end
theorem inv_pow (q : Rat) : ∀ n : Nat, (q⁻¹) ^ n = (q ^ n)⁻¹
  | 0 => by rw [Rat.pow_zero, Rat.pow_zero]; exact (Rat.inv_eq_of_mul_eq_one (by simp)).symm
  | n + 1 => by rw [Rat.pow_succ, Rat.pow_succ, inv_pow q n, Rat.inv_mul_rev, Rat.mul_comm]
theorem zpow_pos_is (q : Rat) {e : Int} (h : 0 ≤ e) : q ^ e.natAbs = q ^ e := by
  obtain ⟨n, rfl⟩ := Int.eq_ofNat_of_zero_le h
  exact (Rat.zpow_natCast q n).symm
theorem zpow_neg_is (q : Rat) {e : Int} (h : e < 0) : (q⁻¹) ^ e.natAbs = q ^ e := by
  obtain ⟨n, hn⟩ := Int.eq_ofNat_of_zero_le (show 0 ≤ -e by omega)
  have e1 : e = -(n : Int) := by omega
  rw [e1, Rat.zpow_neg, Int.natAbs_neg, inv_pow]
  rfl
end SQ

/-! The texts of numbers and fractions. -/
namespace SQ
open PySem PySem.Spec PyProof.Rows L2 SF TL
theorem tx_nat (n : Nat) : tl (tx (n : Int)) = numL n := tl_num n
theorem tx_neg (n : Nat) : tl (tx (-((n + 1 : Nat) : Int))) = 45 :: numL (n + 1) := by
  have e : (-((n + 1 : Nat) : Int)) = Int.negSucc n := rfl
  have e2 : toString (Int.negSucc n) = "-" ++ toString (n + 1) := rfl
  rw [e]
  show tl (Str.ofString (toString (Int.negSucc n))) = _
  rw [e2, tl_ofString]
  have e3 : ("-" ++ toString (n + 1)).toList = '-' :: (toString (n + 1)).toList := by simp
  rw [e3, List.map_cons]
  have e4 := tl_num (n + 1)
  rw [tl_ofString] at e4
  have e5 : (toString ((n + 1 : Nat) : Int)) = toString (n + 1) := rfl
  rw [e5] at e4
  rw [e4]
  rfl
theorem numL_head {n : Nat} (h : 0 < n) : ∃ c l, numL n = c :: l ∧ c ≠ 48 ∧ 48 ≤ c ∧ c ≤ 57 := by
  induction n using Nat.strongRecOn with
  | _ n ih =>
    by_cases h1 : n < 10
    · exact ⟨_, _, numL_lt h1, by omega, by omega, by omega⟩
    · obtain ⟨c, l, e, h2, h3⟩ := ih (n / 10) (by omega) (by omega)
      rw [numL_step (by omega), e]
      exact ⟨c, _, rfl, h2, h3⟩
theorem tx_cases (i : Int) : (∃ n : Nat, i = n ∧ tl (tx i) = numL n) ∨ (∃ n : Nat, 0 < n ∧ i = -(n : Int) ∧ tl (tx i) = 45 :: numL n) := by
  by_cases h : i < 0
  · obtain ⟨n, hn⟩ := Int.eq_ofNat_of_zero_le (show 0 ≤ -i - 1 by omega)
    refine .inr ⟨n + 1, by omega, by omega, ?_⟩
    have : i = -((n + 1 : Nat) : Int) := by omega
    rw [this]
    exact tx_neg n
  · obtain ⟨n, rfl⟩ := Int.eq_ofNat_of_zero_le (show 0 ≤ i by omega)
    exact .inl ⟨n, rfl, tx_nat n⟩
theorem tx_free {i : Int} {s : Nat} (h : s < 45 ∨ 57 < s ∨ s = 46 ∨ s = 47) : s ∉ tl (tx i) := by
  rcases tx_cases i with ⟨n, _, e⟩ | ⟨n, _, _, e⟩
  · rw [e]; exact numL_free (by omega)
  · rw [e]
    intro z
    rcases List.mem_cons.mp z with z | z
    · omega
    · exact numL_free (by omega) z
theorem tx_inj {i j : Int} (h : tx i = tx j) : i = j := by
  have h : tl (tx i) = tl (tx j) := by rw [h]
  have no : ∀ {n m : Nat}, numL n = 45 :: numL m → False := fun {n m} e => by
    have : (45 : Nat) ∈ numL n := by rw [e]; exact List.mem_cons_self
    exact numL_free (by omega) this
  rcases tx_cases i with ⟨n, rfl, e⟩ | ⟨n, _, rfl, e⟩ <;> rcases tx_cases j with ⟨m, rfl, f⟩ | ⟨m, _, rfl, f⟩ <;> rw [e, f] at h
  · rw [numL_inj h]
  · exact (no h).elim
  · exact (no h.symm).elim
  · injection h with _ h
    rw [numL_inj h]
theorem int_tx {i : Int} (h : (tx i).length ≤ 4300) : intText? (tx i) = some i := by
  rcases tx_cases i with ⟨n, rfl, e⟩ | ⟨n, _, rfl, e⟩
  · have l : (numL n).length ≤ 4300 := by rw [← e, ← len_tl]; exact h
    exact int_num l
  · have := intText_neg (x := tx (-(n : Int))) e (numL_digits n) (numL_ne n) h
    rw [this, numL_val]
/-- two pieces around a sign that stands in neither first piece -/
theorem split_inj {c : Nat} : ∀ {u u' v v' : List Nat}, c ∉ u → c ∉ u' → u ++ c :: v = u' ++ c :: v' → u = u' ∧ v = v'
  | [], [], _, _, _, _, h => ⟨rfl, by simpa using h⟩
  | [], x :: u', v, v', _, h2, h => by
    simp only [List.nil_append, List.cons_append, List.cons.injEq] at h
    exact absurd (by rw [h.1]; exact List.mem_cons_self) h2
  | x :: u, [], v, v', h1, _, h => by
    simp only [List.nil_append, List.cons_append, List.cons.injEq] at h
    exact absurd (by rw [h.1]; exact List.mem_cons_self) h1
  | x :: u, y :: u', v, v', h1, h2, h => by
    simp only [List.cons_append, List.cons.injEq] at h
    obtain ⟨a, b⟩ := split_inj (c := c) (u := u) (u' := u') (fun z => h1 (List.mem_cons_of_mem _ z)) (fun z => h2 (List.mem_cons_of_mem _ z)) h.2
    exact ⟨by rw [h.1, a], b⟩
theorem tl_empty : tl Str.empty = [] := rfl
theorem rrepr_tl (q : Rat) : tl (rrepr q) = tl ("Ratio(" : Str) ++ (tl (tx q.num) ++ 44 :: (32 :: (tl (tx q.den) ++ [41]))) := by
  unfold rrepr
  simp only [tl_append, tl_empty]
  have e1 : tl (", " : Str) = [44, 32] := rfl
  have e2 : tl (")" : Str) = [41] := rfl
  rw [e1, e2]
  simp [List.append_assoc]
theorem rrepr_inj {q r : Rat} : decide (rrepr q = rrepr r) = decide (q = r) := by
  by_cases h : q = r
  · rw [h]; simp
  · rw [decide_eq_false h]
    refine decide_eq_false fun z => h ?_
    have e : tl (rrepr q) = tl (rrepr r) := by rw [z]
    rw [rrepr_tl, rrepr_tl] at e
    have e := List.append_cancel_left e
    obtain ⟨a, b⟩ := split_inj (tx_free (by omega)) (tx_free (by omega)) e
    simp only [List.cons.injEq, true_and] at b
    obtain ⟨b, _⟩ := split_inj (tx_free (by omega)) (tx_free (by omega)) b
    have e1 := tx_inj (ext_tl a)
    have e2 := tx_inj (ext_tl b)
    exact Rat.ext e1 (by omega)
theorem rstr_tl (q : Rat) : tl (rstr q) = if q.den = 1 then tl (tx q.num) else tl (tx q.num) ++ 47 :: tl (tx q.den) := by
  unfold rstr
  split
  · rfl
  · simp only [tl_append, tl_empty]
    have e1 : tl ("/" : Str) = [47] := rfl
    rw [e1]
    simp [List.append_assoc]
theorem rstr_inj {q r : Rat} : decide (rstr q = rstr r) = decide (q = r) := by
  by_cases h : q = r
  · rw [h]; simp
  · rw [decide_eq_false h]
    refine decide_eq_false fun z => h ?_
    have e : tl (rstr q) = tl (rstr r) := by rw [z]
    rw [rstr_tl, rstr_tl] at e
    have no : ∀ {i j k : Int}, tl (tx i) = tl (tx j) ++ 47 :: tl (tx k) → False := fun {i j k} e => by
      have : (47 : Nat) ∈ tl (tx i) := by rw [e]; simp
      exact tx_free (by omega) this
    split at e <;> split at e
    · exact Rat.ext (tx_inj (ext_tl e)) (by omega)
    · exact (no e).elim
    · exact (no e.symm).elim
    · obtain ⟨a, b⟩ := split_inj (tx_free (by omega)) (tx_free (by omega)) e
      have e1 := tx_inj (ext_tl a)
      have e2 := tx_inj (ext_tl b)
      exact Rat.ext e1 (by omega)

/-! ### what the program takes for a text of a fraction -/
def posT (x : Str) : Bool := Txt.isascii x && (Txt.isdigit x && !decide ((tl x).head? = some 48))
def iv (x : Str) : Int := (intText? x).getD 0
def isTx (x : Str) : Bool :=
  (decide ((Txt.partition x "/").1 = ("0" : Str)) || posT (Txt.removeprefix (Txt.partition x "/").1 "-")) &&
  (decide ((Txt.partition x "/").2.1 = ("" : Str)) || (posT (Txt.partition x "/").2.2 && (!decide ((Txt.partition x "/").2.2 = ("1" : Str)) && decide (gI (iv (Txt.partition x "/").1) (iv (Txt.partition x "/").2.2) = 1))))
theorem dig_uni : ∀ c : Nat, 48 ≤ c → c ≤ 57 → Unicode.isDigit c = true := by
  intro c h1 h2
  have : ∀ d : Fin 10, Unicode.isDigit (48 + d.val) = true := by decide +kernel
  have e := this ⟨c - 48, by omega⟩
  have e2 : 48 + (c - 48) = c := by omega
  simpa [e2] using e
theorem posT_num {n : Nat} (h : 0 < n) {x : Str} (hx : tl x = numL n) : posT x = true := by
  obtain ⟨c, l, e, h1, _⟩ := numL_head h
  have hd := numL_digits n
  unfold posT Txt.isascii Txt.isdigit
  have all : ∀ {p : Nat → Bool}, (∀ c, 48 ≤ c → c ≤ 57 → p c = true) → x.cps.all p = true := fun {p} hp => by
    rw [← Array.all_toList]
    show (tl x).all p = true
    rw [hx, List.all_eq_true]
    intro c hc
    have := hd c hc
    exact hp c (by omega) (by omega)
  rw [all (fun c _ _ => by simp; omega), all (fun c a b => dig_uni c a b), len_tl, hx, e]
  simp [h1]
theorem subAt0 (x : Str) : Builtin.Str.subAt x "-" 0 = decide ((tl x).head? = some 45) := by
  have e : Builtin.Str.subAt x "-" 0 = (x.cps.extract 0 1 == #[45]) := rfl
  rw [e, Bool.eq_iff_iff]
  constructor
  · intro h
    have h1 := congrArg Array.toList (eq_of_beq h)
    rw [Array.toList_extract] at h1
    have h2 : (tl x).take 1 = [45] := by simpa [List.extract] using h1
    cases hx : tl x with
    | nil => rw [hx] at h2; cases h2
    | cons c l => rw [hx] at h2; simp at h2; simp [h2]
  · intro h
    have h := of_decide_eq_true h
    have h1 : x.cps.extract 0 1 = #[45] := by
      apply Array.toList_inj.mp
      rw [Array.toList_extract]
      show List.extract (tl x) 0 1 = [45]
      cases hx : tl x with
      | nil => rw [hx] at h; cases h
      | cons c l => rw [hx] at h; simp at h; simp [List.extract, h]
    rw [h1]
    rfl
theorem rp_neg {x : Str} {l : List Nat} (h : tl x = 45 :: l) : tl (Txt.removeprefix x "-") = l := by
  have hl : x.length = l.length + 1 := by rw [len_tl, h]; rfl
  have s1 : ("-" : Str).length = 1 := rfl
  rw [StrLaws.removeprefix_eq, subAt0, h, s1, hl]
  rw [if_pos (by simp)]
  show ((x.cps.toList.drop 1).take (l.length + 1 - 1)) = l
  rw [show x.cps.toList = 45 :: l from h]
  simp
theorem rp_same {x : Str} (h : (tl x).head? ≠ some 45) : Txt.removeprefix x "-" = x := by
  rw [StrLaws.removeprefix_eq, subAt0, decide_eq_false h, Bool.and_false, if_neg (by simp)]
theorem rp_tx {i : Int} (h : i ≠ 0) : posT (Txt.removeprefix (tx i) "-") = true := by
  rcases tx_cases i with ⟨n, rfl, e⟩ | ⟨n, hn, rfl, e⟩
  · obtain ⟨c, l, e2, _, h1, h2⟩ := numL_head (n := n) (by omega)
    rw [rp_same (by rw [e, e2]; simp; omega)]
    exact posT_num (by omega) e
  · exact posT_num hn (rp_neg e)
theorem tx_zero : tx 0 = ("0" : Str) := rfl
theorem tx_one : tx 1 = ("1" : Str) := rfl
theorem part1 (i : Int) : Txt.partition (tx i) "/" = (tx i, Str.empty, Str.empty) := partition_none (y := "/") (s := 47) (S := []) rfl (tx_free (by omega))
theorem part2 (i j : Int) : Txt.partition (((Str.empty ++ tx i) ++ ("/" : Str)) ++ tx j) "/" = (tx i, ("/" : Str), tx j) := by
  have e : Str.empty ++ tx i = tx i := ext_tl (by rw [tl_append]; rfl)
  rw [e]
  exact partition_app (y := "/") (s := 47) (S := []) rfl (tx_free (by omega))
theorem cop_gI (q : Rat) : gI q.num q.den = 1 := by
  unfold gI
  have := q.reduced
  unfold Nat.Coprime at this
  rw [show ((q.den : Int)).natAbs = q.den from rfl, this]
  rfl
theorem a_ok (i : Int) : (decide (tx i = ("0" : Str)) || posT (Txt.removeprefix (tx i) "-")) = true := by
  by_cases h : i = 0
  · subst h; rw [tx_zero]; simp
  · rw [rp_tx h, Bool.or_true]
theorem isTx_rstr (q : Rat) (h1 : (tx q.num).length ≤ 4300) (h2 : (tx q.den).length ≤ 4300) : isTx (rstr q) = true := by
  unfold rstr
  by_cases h : q.den = 1
  · rw [if_pos h]
    unfold isTx
    rw [part1]
    dsimp only
    rw [a_ok]
    have e : decide (Str.empty = ("" : Str)) = true := rfl
    rw [e]
    rfl
  · rw [if_neg h]
    unfold isTx
    rw [part2]
    dsimp only
    have hd : 0 < q.den := Nat.pos_of_ne_zero q.den_nz
    have e1 : posT (tx (q.den : Int)) = true := posT_num hd (tx_nat q.den)
    have e2 : decide (tx (q.den : Int) = ("1" : Str)) = false := decide_eq_false fun z => h (by have := tx_inj (i := q.den) (j := 1) (z.trans tx_one.symm); omega)
    have e3 : iv (tx q.num) = q.num := by unfold iv; rw [int_tx h1]; rfl
    have e4 : iv (tx (q.den : Int)) = q.den := by unfold iv; rw [int_tx h2]; rfl
    rw [a_ok, e1, e2, e3, e4, cop_gI]
    simp

theorem dig_ascii : ∀ c : Nat, c < 128 → Unicode.isDigit c = true → 48 ≤ c ∧ c ≤ 57 := by
  intro c h1 h2
  have : ∀ d : Fin 128, Unicode.isDigit d.val = true → 48 ≤ d.val ∧ d.val ≤ 57 := by decide +kernel
  exact this ⟨c, h1⟩ h2
theorem posT_digits {x : Str} (h : posT x = true) : NumText.AllDigits (tl x) ∧ tl x ≠ [] := by
  unfold posT at h
  obtain ⟨h1, h⟩ := Bool.and_eq_true_iff.mp h
  obtain ⟨h2, _⟩ := Bool.and_eq_true_iff.mp h
  unfold Txt.isascii at h1
  unfold Txt.isdigit at h2
  obtain ⟨h3, h2⟩ := Bool.and_eq_true_iff.mp h2
  rw [← Array.all_toList] at h1 h2
  refine ⟨fun c hc => ?_, fun e => ?_⟩
  · have a := List.all_eq_true.mp h1 c hc
    have b := List.all_eq_true.mp h2 c hc
    have := dig_ascii c (by simpa using a) b
    exact this
  · have := of_decide_eq_true h3
    rw [len_tl, e] at this
    exact absurd this (by simp)
theorem int_digits {x : Str} (h : NumText.AllDigits (tl x)) (h1 : tl x ≠ []) (h2 : x.length ≤ 4300) : intText? x = some ((NumText.digitsVal (tl x) : Nat) : Int) := intText_digits h h1 h2
theorem iv_pos {x : Str} (h : posT x = true) (hl : x.length ≤ 4300) : intText? x = some (iv x) := by
  obtain ⟨a, b⟩ := posT_digits h
  unfold iv
  rw [int_digits a b hl]
  rfl
theorem iv_top {x : Str} (h : (decide (x = ("0" : Str)) || posT (Txt.removeprefix x "-")) = true) (hl : x.length ≤ 4300) : intText? x = some (iv x) := by
  rcases Bool.or_eq_true_iff.mp h with h | h
  · rw [of_decide_eq_true h]
    have : intText? ("0" : Str) = some 0 := by have := int_tx (i := 0) (by rw [tx_zero]; decide); rwa [tx_zero] at this
    unfold iv
    rw [this]
    rfl
  · obtain ⟨a, b⟩ := posT_digits h
    by_cases hx : (tl x).head? = some 45
    · cases e : tl x with
      | nil => rw [e] at hx; cases hx
      | cons c l =>
        rw [e] at hx
        simp at hx
        subst hx
        rw [rp_neg e] at a b
        unfold iv
        rw [intText_neg e a b hl]
        rfl
    · rw [rp_same hx] at a b
      unfold iv
      rw [int_digits a b hl]
      rfl
theorem split_at (c : Nat) : ∀ l : List Nat, c ∉ l ∨ ∃ a b, l = a ++ c :: b ∧ c ∉ a
  | [] => .inl (by simp)
  | x :: l => by
    by_cases h : x = c
    · subst h; exact .inr ⟨[], l, rfl, by simp⟩
    · rcases split_at c l with h1 | ⟨a, b, e, h1⟩
      · exact .inl (by simp [h1]; exact fun z => h z.symm)
      · exact .inr ⟨x :: a, b, by rw [e]; rfl, by simp [h1]; exact fun z => h z.symm⟩
theorem part_len (x : Str) : (Txt.partition x "/").1.length ≤ x.length ∧ (Txt.partition x "/").2.2.length ≤ x.length := by
  rcases split_at 47 (tl x) with h | ⟨a, b, e, h⟩
  · rw [partition_none (y := "/") (s := 47) (S := []) rfl h]
    exact ⟨Nat.le_refl _, Nat.zero_le _⟩
  · have e2 : x = ((⟨a.toArray⟩ : Str) ++ ("/" : Str)) ++ (⟨b.toArray⟩ : Str) := ext_tl (by
      rw [tl_append, tl_append]
      refine e.trans ?_
      have : tl ("/" : Str) = [47] := rfl
      rw [this]
      show _ = a ++ [47] ++ b
      simp)
    rw [e2, partition_app (y := "/") (s := 47) (S := []) rfl h]
    simp only [Str.length_append]
    omega
/-- a value of so many digits -/
theorem val_lt : ∀ (l : List Nat) (a : Nat), NumText.AllDigits l → l.foldl (fun acc c => acc * 10 + (c - 48)) a < (a + 1) * 10 ^ l.length
  | [], a, _ => by simp
  | c :: l, a, h => by
    have hc := h.head
    rw [List.foldl_cons, List.length_cons]
    refine Nat.lt_of_lt_of_le (val_lt l _ h.tail) ?_
    rw [Nat.pow_succ, ← Nat.mul_assoc, Nat.mul_right_comm]
    exact Nat.mul_le_mul_right _ (by omega)
theorem digits_lt {l : List Nat} (h : NumText.AllDigits l) : NumText.digitsVal l < 10 ^ l.length := by
  have := val_lt l 0 h
  rw [Nat.zero_add, Nat.one_mul] at this
  exact this
def RDN : Nat := 2200
theorem ten_lt {k : Nat} (h : k ≤ 640) : 10 ^ k < 2 ^ RDN := by
  refine Nat.lt_of_le_of_lt (Nat.pow_le_pow_right (by decide) h) ?_
  decide +kernel
theorem iv_lt {x : Str} (h : (decide (x = ("0" : Str)) || posT (Txt.removeprefix x "-")) = true) (hl : x.length ≤ 640) : (iv x).natAbs < 2 ^ RDN := by
  have hi := iv_top h (Nat.le_trans hl (by decide))
  rcases Bool.or_eq_true_iff.mp h with h | h
  · have : iv x = 0 := by
      rw [of_decide_eq_true h]
      have : intText? ("0" : Str) = some 0 := by have := int_tx (i := 0) (by rw [tx_zero]; decide); rwa [tx_zero] at this
      unfold iv
      rw [this]
      rfl
    rw [this]
    exact Nat.two_pow_pos _
  · obtain ⟨a, b⟩ := posT_digits h
    by_cases hx : (tl x).head? = some 45
    · cases e : tl x with
      | nil => rw [e] at hx; cases hx
      | cons c l =>
        rw [e] at hx
        simp at hx
        subst hx
        rw [rp_neg e] at a b
        have hv := intText_neg e a b (Nat.le_trans hl (by decide))
        rw [hi] at hv
        rw [Option.some.inj hv, Int.natAbs_neg]
        have len : l.length ≤ 640 := by rw [len_tl, e] at hl; simp at hl; omega
        exact Nat.lt_of_lt_of_le (digits_lt a) (Nat.le_of_lt (ten_lt len))
    · rw [rp_same hx] at a b
      have hv := int_digits a b (Nat.le_trans hl (by decide))
      rw [hi] at hv
      rw [Option.some.inj hv]
      rw [len_tl] at hl
      exact Nat.lt_of_lt_of_le (digits_lt a) (Nat.le_of_lt (ten_lt hl))
theorem ivp_lt {x : Str} (h : posT x = true) (hl : x.length ≤ 640) : (iv x).natAbs < 2 ^ RDN := by
  have hi := iv_pos h (Nat.le_trans hl (by decide))
  obtain ⟨a, b⟩ := posT_digits h
  have hv := int_digits a b (Nat.le_trans hl (by decide))
  rw [hi] at hv
  rw [Option.some.inj hv]
  rw [len_tl] at hl
  exact Nat.lt_of_lt_of_le (digits_lt a) (Nat.le_of_lt (ten_lt hl))
theorem ivp_ne {x : Str} (h : posT x = true) (hl : x.length ≤ 640) : iv x ≠ 0 := by
  have hi := iv_pos h (Nat.le_trans hl (by decide))
  obtain ⟨a, b⟩ := posT_digits h
  have hv := int_digits a b (Nat.le_trans hl (by decide))
  rw [hi] at hv
  rw [Option.some.inj hv]
  unfold posT at h
  obtain ⟨_, h⟩ := Bool.and_eq_true_iff.mp h
  obtain ⟨_, h⟩ := Bool.and_eq_true_iff.mp h
  cases e : tl x with
  | nil => exact absurd e b
  | cons c l =>
    rw [e] at h a
    have hc := a c List.mem_cons_self
    have hn : c ≠ 48 := fun z => by subst z; simp at h
    have := NumText.digitsVal_pos (c := c) (cs := l) (by omega)
    omega
/-- the fraction that a text tells -/
def rdq (x : Str) : Rat := if (Txt.partition x "/").2.1 = ("" : Str) then (iv (Txt.partition x "/").1 : Rat) else Rat.divInt (iv (Txt.partition x "/").1) (iv (Txt.partition x "/").2.2)
theorem rdq_rstr (q : Rat) (h1 : (tx q.num).length ≤ 4300) (h2 : (tx q.den).length ≤ 4300) : rdq (rstr q) = q := by
  have e3 : iv (tx q.num) = q.num := by unfold iv; rw [int_tx h1]; rfl
  have e4 : iv (tx (q.den : Int)) = q.den := by unfold iv; rw [int_tx h2]; rfl
  unfold rstr
  by_cases h : q.den = 1
  · rw [if_pos h]
    unfold rdq
    rw [part1]
    dsimp only
    rw [if_pos (show Str.empty = ("" : Str) from rfl), e3]
    exact Rat.ext rfl (by show 1 = q.den; omega)
  · rw [if_neg h]
    unfold rdq
    rw [part2]
    dsimp only
    rw [if_neg (by decide), e3, e4, Rat.num_divInt_den]
def spIsP : Sp := fun vs H Q _ => ∃ x : Str, vs = [.str x] ∧ x.length ≤ 640 ∧ Q (.bl (posT x)) H
def spIsT : Sp := fun vs H Q _ => ∃ x : Str, vs = [.str x] ∧ x.length ≤ 640 ∧ ∀ H', Same H H' → Q (.bl (isTx x)) H'
def spRd (C : Addr) : Sp := fun vs H Q _ => ∃ x : Str, vs = [.ref C, .str x] ∧ x.length ≤ 640 ∧ isTx x = true ∧ ∀ p H', Same H H' → RQ C H' p RDN (rdq x) → Q (.ref p) H'
/-- c(..), c a local name that holds the class -/
def tMakeL (i : Nat) (C : Addr) (sp : Sp) (dvs : List V) (E : XK) (t : TA) : TE := fun σ H Q => σ[i]? = some (some (.ref C)) ∧ tMake C sp dvs E t σ H Q
section
variable {X : Cx} {CX : CXT} {k i : Nat} {C f : Addr} {fd : FuncData} {ps : List Str} {sp : Sp} {dvs : List V} {ds : List Value} {E : XK} {x : Str} {p pos : Pos} {e : Expr} {es : List Expr} {t : TA}
theorem pe_makeL (M : Mk X.K C f) (F : FnOk X.prog X.w X.K X.mg X.base CX k f fd ps sp) (hr : Room (k + 1) X.A) (hN : X.N[i]? = some x) (hv : Vis X.env.scope x) (hb : Binds X.K fd ps ds) (hd : Vals dvs ds) (hx : Passes CX X E) (ha : PA X (e :: es) t)
    (hdb : (x == ("__debug__" : Str)) = false := by decide) (hcd : (x == ("__classdict__" : Str)) = false := by decide)
    (he : starEach (e :: es) X.env = (false, eval e X.env) :: starEach es X.env := by rfl) (hpl : (backTo pos (starEach es X.env)).any (·.1) = false := by rfl) : PE X (.Call (.Name x p) (e :: es) [] pos) (tMakeL i C sp dvs E t) := by
  refine ⟨fun pins s σ H Q I h => ?_⟩
  obtain ⟨hs, ht⟩ := h
  refine wpAny_Call_Name_kw (thn ((pe_var (pos := p) hN hv hdb hcd).run pins s σ H (fun v H1 => v = .ref C ∧ H1 = H) I ⟨.ref C, hs, rfl, rfl⟩) fun u s1 ⟨v, H1, I1, r1, q1⟩ => ?_)
  obtain ⟨rfl, rfl⟩ := q1
  cases r1
  refine PySem.W.callWith_K (h₀ := X.base) I.ok.mod.kin M.kp (thn (ha.run pos pins s1 σ _ _ I1 ht) fun us s2 ⟨vs, H2, I2, r, q⟩ => ⟨I2.kIn, ?_⟩) he hpl
  exact run_make M F hr hb hd hx I2 r q
end
end SQ

/-! Own exceptions held as values: isinstance and fields. -/
namespace SX
open PySem PySem.Spec PySem.W PySem.Calls PyProof.Rows L2 SF
/-- at a: an exception of the own class at D, not raised; fs: what it was given -/
def ExA (H : Hp) (a D : Addr) (fs : List (Str × V)) : Prop := (∃ d, H a = some (exo a D (some d)) ∧ H d = some (exd d fs)) ∨ (fs = [] ∧ H a = some (ExO (.ref D) a))
theorem ExA.same {H H' : Hp} {a D : Addr} {fs : List (Str × V)} (e : ExA H a D fs) (s : ∀ b o, H b = some o → H' b = some o) : ExA H' a D fs := by
  rcases e with ⟨d, h1, h2⟩ | ⟨h0, h1⟩
  · exact .inl ⟨d, s _ _ h1, s _ _ h2⟩
  · exact .inr ⟨h0, s _ _ h1⟩
section
variable {prog : Program} {w : World} {A : Around} {E : Value → Shared → Prop} {s : Shared} {K : Frag} {x D : Addr} {ox : Obj} {od : Option Obj}
theorem find_data {a g : Value} {name : Str} (hc : (clsIn K D).isSome = true) (ha : findIn K (.ref D) name = some (some a)) (hg : specialIn K a "__get__" = some (some g)) (ht : takesIn K a = some true) : findObj K D od name = some (.bind g a) := by
  obtain ⟨cd, hc⟩ := Option.isSome_iff_exists.mp hc
  unfold findObj
  rw [hc, Option.bind_some, ha, Option.bind_some]
  simp [hg, ht]
theorem cls_isSome (h : hasDictIn K D = true) : (clsIn K D).isSome = true := by
  obtain ⟨cd, hc, _⟩ := any_some h
  rw [hc]
  rfl
/-- x.__class__, whatever dict the exception has -/
theorem class_ask {Q : Option Value → Shared → Prop} (C : ExcC K D) (X : K.In s.heap) (I : InstAt s.heap x ox D od) (h : Q (some (.ref D)) { s with toks := s.toks + 1 }) : wpAny (model prog w) A (getAttr? (.ref x) "__class__") Q E s := by
  have hf : findObj K D od "__class__" = some (.bind (.builtin "getset_descriptor.__get__") (.builtin "object.__class__")) := find_data (cls_isSome C.hd) C.ha C.hn C.ht
  obtain ⟨hp, g, d, t, os⟩ := s
  have L0 := I.type (M := model prog w)
  have L1 := looks_findIn (M := model prog w) X C.hg
  have L2 := looks_findIn (M := model prog w) X C.hk
  have L3 := looks_find (M := model prog w) X I hf
  have sub : Looks (model prog w) hp (isInstance (.ref x) (.type "BaseException")) true := L0.andThen (looks_subIn X C.hs)
  have n0 : (false && onTheHeap (Value.builtin "BaseException.__getattribute__")) = false := rfl
  have n2 : (Value.builtin "BaseException.__getattribute__" == Value.builtin "object.__getattribute__") = false := by decide +kernel
  have n1 : (onTheHeap (Value.ref D) && Value.builtin "BaseException.__getattribute__" == Value.builtin "object.__getattribute__") = false := by rw [n2]; rfl
  unfold getAttr? getAttrBy? getAttrBy
  refine wpAny_bind (wpAny_mkText (wpAny_bind (wpAny_attempt (wpAny_holding (wpAny_bind (L0.at (wpAny_bind (L1.at ?_))))))))
  show wpAny _ _ (if (onTheHeap (Value.ref D) && Value.builtin "BaseException.__getattribute__" == Value.builtin "object.__getattribute__") = true then _ else _) _ _ _
  rw [n1, if_neg Bool.false_ne_true]
  unfold getAttrByItsOwn hookBefore
  refine wpAny_bind ?_
  rw [if_pos (show onTheHeap (Value.ref D) = true from rfl)]
  refine L2.at ?_
  refine wpAny_bind (wpAny_attempt (wpAny_holding ?_))
  unfold callGetattribute
  rw [n0, if_neg Bool.false_ne_true]
  unfold boundAndCalled
  rw [PySem.F.excAttr_ValueError.ga.bind (.ref x)]
  refine wpAny_bind (wpAny_pure ?_)
  show wpAny _ _ (call (.builtin "BaseException.__getattribute__") [.ref x, .str "__class__" t]) _ _ _
  refine wpAny_call (codeAny_call_builtin PySem.F.excAttr_ValueError.ga.plain PySem.F.entry_bexc_ga ?_)
  refine @check_slot (model prog w) _ _ ⟨hp, g, d, t + 1, os⟩ "BaseException.__getattribute__" "BaseException" "__getattribute__" (.ref x) [.str "__class__" t] [] _ (by decide +kernel) (by decide +kernel) sub (PySem.F.args_bexc_ga (.ref x) (.str "__class__" t)) ?_
  unfold Builtin.«object.__getattribute__»
  refine wpAny_bind (wpAny_of_eq (a := ((Value.ref x : Value), [Value.str "__class__" t])) (by first | rfl | (simp only [slotArgs]; rfl)) ?_)
  refine wpAny_bind (wpAny_pure (wpAny_bind (L0.at (wpAny_bind (L3.at ?_)))))
  show wpAny _ _ (holding [Value.builtin "object.__class__"] (call (.builtin "getset_descriptor.__get__") [.builtin "object.__class__", .ref x, .ref D]) >>= ret) _ _ _
  refine wpAny_bind (wpAny_holding (wpAny_call (class_get (s := ⟨hp, g, d, t + 1, os⟩) (ox := ox) (od := od) X I C.hm ?_)))
  refine wpAny_pure ?_
  show wpAny _ _ (handedOut (.ref D)) _ _ _
  rw [handedOut_of (v := .ref D) rfl]
  first
    | exact wpAny_pure (wpAny_pure h)
    | exact wpAny_pure h
    | exact wpAny_pure (wpAny_bind (wpAny_pure (wpAny_pure h)))
theorem cls_obj (hd : hasDictIn K D = true) : ∃ cls dict cd sl, K.lookup D = some ⟨cls, dict, .cls cd, sl⟩ := by
  have h := cls_isSome hd
  unfold clsIn at h
  split at h
  · rename_i c' d' cd' sl' ho
    exact ⟨c', d', cd', sl', ho⟩
  · cases h
theorem kit_exc (C : ExcC K D) : KitX K (.ref x) (.ref D) (fun h => InstAt h x ox D od) where
  ty := fun _ _ _ I => I.type
  it := fun _ _ X _ => by
    obtain ⟨_, _, _, _, ho⟩ := cls_obj C.hd
    intro A' Q' E' s' k q
    unfold isType loadHead
    exact wpAny_bind (wpAny_loadPart (k _ _ (X _ _ ho)) (wpAny_pure q))
  ne := fun h tp dd its n sl X htp => by
    obtain ⟨_, _, _, _, ho⟩ := cls_obj C.hd
    refine Bool.eq_false_iff.mpr fun q => ?_
    have e : D = tp := Value.ref.inj (beq_iff_eq.mp q)
    subst e
    have z := (X _ _ ho).symm.trans htp
    cases z
  ca := fun X I k => class_ask C X I k
end
section
variable {X : Cx} {pins : List (Addr × Obj)} {σ : L2.St} {H : Hp} {s : Shared} {a D : Addr} {fs : List (Str × V)}
/-- the exception's object, its dict's object -/
theorem exA_inst (I : Inv X pins σ H s) (e : ExA H a D fs) : ∃ (ox : Obj) (od : Option Obj), InstAt s.heap a ox D od ∧ ∀ f v, fs.lookup f = some v → ∃ o u, od = some o ∧ lookIn f o = some (some u) ∧ RelV v u := by
  rcases e with ⟨d, h1, h2⟩ | ⟨rfl, h1⟩
  · obtain ⟨t1, ho⟩ := exo_at I.hok h1
    obtain ⟨mA, hns, hr⟩ := exd_at I.hok h2
    obtain ⟨od, hod, hl⟩ := lookIn_ns hns
    refine ⟨_, some od, ⟨ho, rfl, rfl, hod⟩, fun f v hf => ?_⟩
    obtain ⟨u, hu, ru⟩ := RelO.some_of (v := v) (o := mA f) (by rw [← hf]; exact hr f)
    exact ⟨od, u, rfl, by rw [hl, hu], ru⟩
  · obtain ⟨⟨oe, vs, ho, hz, hd, _⟩, _, _⟩ := I.hok a _ h1
    refine ⟨oe, none, ⟨ho, hz.1, by unfold PySem.W.notCls; rw [hd] <;> rfl, by rw [hz.2]; trivial⟩, fun f v hf => ?_⟩
    cases hf
/-- isinstance(e, C) -/
def rIsX (K : PySem.W.Frag) : List V → Hp → VK → Prop := fun xs H Q => ∃ (a D : Addr) (fs : List (Str × V)) (c : V) (u : Value) (b : Bool), xs = [.ref a, c] ∧ ClsV c u ∧ ExA H a D fs ∧ ExcC K D ∧ PySem.W.kitOne K (.ref D) u = some b ∧ Q (.bl b) H
theorem call_isX : CallR X (.builtin "isinstance") (rIsX X.K) := by
  intro pins s σ H xs us Q I r h
  obtain ⟨a, D, fs, c, u, b, rfl, k, ea, C, e, q⟩ := h
  obtain ⟨u1, u2, rfl, r1, r2⟩ := vals2 r
  have e2 := k.eq r2
  subst e2
  cases (show u1 = Value.ref a from r1)
  obtain ⟨ox, od, J, _⟩ := exA_inst I ea
  exact PySem.W.kia_one (kit_exc C) I.kIn J e (fun z => nomatch z) fun tk => ⟨.bl b, H, I.tok tk, rfl, q⟩
/-- e.f -/
def tFldX (K : PySem.W.Frag) (f : Str) (te : TE) : TE := fun σ H Q => te σ H fun x H1 => ∃ (a D : Addr) (fs : List (Str × V)) (v : V), x = .ref a ∧ ExA H1 a D fs ∧ XfC K D ∧ PySem.W.findIn K (.ref D) f = some none ∧ fs.lookup f = some v ∧ Q v H1
theorem pe_fldX {e : Expr} {te : TE} {pos : Pos} {n : Str} (he : PE X e te) (hb : attributeBase e n X.env (eval e X.env) = eval e X.env := by rfl) : PE X (.Attribute e n pos) (tFldX X.K n te) := by
  refine ⟨fun pins s σ H Q I h => ?_⟩
  refine attr_of hb (thn (he.run pins s σ H _ I h) fun u s1 hh => ?_)
  obtain ⟨x, H1, I1, rx, a, D, fs, v, rfl, ea, T, hno, l, q⟩ := hh
  obtain rfl : u = Value.ref a := rx
  obtain ⟨ox, od, J, hl⟩ := exA_inst I1 ea
  obtain ⟨o, u, rfl, hu, ru⟩ := hl n v l
  exact HandSPX.exc_get I1.kIn J T.ga T.gg T.exC (PySem.W.findObj_own T.hdC hno rfl hu) (handed_of ru) ⟨v, H1, I1.tok _, ru, q⟩
end
end SX

/-! Own exceptions made as values, by position and by name. -/
namespace SX
open PySem PySem.HandSPX
section
variable {M : Model} {A : Around} {E : Value → Shared → Prop} {h : Heap} {g : Array GenState} {d : Drawn} {t : Nat} {os : OsState}
variable {nm q : Str} {C N : Addr} {bs bm bmB : List Value} {hdct : Bool} {sn : List Str} {sub : List Value} {ab : Bool} {col : Option Bool} {dd : Option Addr} {k0 k1 k2 k3 k5 : Option Value} {B newId initId : String}
theorem check_new_kw (F : ExcBaseFacts B newId initId bmB) (hT : ∀ X : String, bm.contains (.type X) = bmB.contains (.type X)) {rest : List Value} {kw : List (Str × Value)} {Q : Unit → Shared → Prop}
    (hC : h.get? C = some (excClassObj nm q C N bs bm hdct sn sub ab col dd k0 k1 k2 k3 k5 newId)) (hq : Q () ⟨h, g, d, t, os⟩) : wpAny M A (checkBuiltinCall newId ⟨.ref C :: rest, kw⟩) Q E ⟨h, g, d, t, os⟩ := by
  have hcont : (Value.ref C :: bm).contains (.type B) = true := by rw [List.contains_cons, hT, F.hasB, Bool.or_true]
  have hstar := F.noStar
  simp only [checkBuiltinCall, F.newKind, F.newSplit, F.newRow]
  repeat (first | refine wpAny_loadPart_at hC ?_ | (refine wpAny_isSubtype_exc hC ?_; rw [hcont]) | refine wpAny_staticBase_exc hC ?_ | refine wpAny_madeBy_exc hC ?_ | simp only [bne_self_eq_false, Bool.false_eq_true, if_false] | wp_step)
  exact hq
end
section
variable {prog : Program} {w : World} {A : Around} {E : Value → Shared → Prop} {R : Result → Shared → Prop} {h : Heap} {g : Array GenState} {d : Drawn} {t : Nat} {os : OsState}
variable {nm q : Str} {C N : Addr} {bs bm bmB : List Value} {hdct : Bool} {sn : List Str} {sub : List Value} {ab : Bool} {col : Option Bool} {dd : Option Addr} {k0 k1 k2 k3 k5 : Option Value} {B newId initId : String}
theorem new_kw (F : ExcBaseFacts B newId initId bmB) (hT : ∀ X : String, bm.contains (.type X) = bmB.contains (.type X)) {rest : List Value} {kw : List (Str × Value)}
    (hC : h.get? C = some (excClassObj nm q C N bs bm hdct sn sub ab col dd k0 k1 k2 k3 k5 newId))
    (hq : R (.ok (.ret (.ref (h.objs.size + 1)))) ⟨(h.push { cls := .type "tuple", data := .seq rest.toArray }).push
      { cls := .ref C, data := .fields #[.ref h.objs.size, .none, .none, .none, .bool false, .none] }, g, d, t, os⟩) (hrest : rest.length ≤ sizeLine) :
    codeAny (model prog w) A (.builtin newId ⟨.ref C :: rest, kw⟩) R ⟨h, g, d, t, os⟩ := by
  have hends := F.ends
  have hcB : (Value.ref C :: bm).contains (.type B) = true := by rw [List.contains_cons, hT, F.hasB, Bool.or_true]
  have hcA : (Value.ref C :: bm).contains (.type "AttributeError") = false := by rw [List.contains_cons, hT, F.noAttr]; rfl
  have hcN : (Value.ref C :: bm).contains (.type "NameError") = false := by rw [List.contains_cons, hT, F.noName]; rfl
  refine codeAny_builtinAt F.entry ?_
  unfold Builtin.«BaseException.__new__»
  refine wpAt_bind ?_
  show wpAt _ _ _ (stack >>= _) _ _ _
  refine wpAt_bind (wpAt_stack fun p below => wpAt_of_wpAny ?_)
  wp_walk
  refine wpAt_of_wpAny ?_
  rw [F.owner]
  repeat (first | with_reducible refine wpAny_madeHere_exc F.canon hC ?_ | with_reducible refine wpAny_loadPart_at hC ?_ | (with_reducible refine wpAny_isSubtype_exc hC ?_; first | rw [hcB] | rw [hcA] | rw [hcN]) | wp_step)
  show R _ _
  rw [Heap.size_push]
  exact hq

theorem type_call_kw (F : ExcBaseFacts B newId initId bmB) (hT : ∀ X : String, bm.contains (.type X) = bmB.contains (.type X)) {rest : List Value} {kw : List (Str × Value)} {fI : Addr} {Q : Fin → Shared → Prop}
    (hC : h.get? C = some (excClassObj nm q C N bs bm hdct sn sub ab col dd k0 k1 k2 k3 k5 newId))
    (hi : W.Looks (model prog w) h (typeLookup (.ref C) "__init__") (some (.ref fI))) (hb : ∀ self, W.Looks (model prog w) h (bindSpecial (.ref fI) self) (.ref fI, [self])) (hrest : rest.length ≤ sizeLine)
    (hq : codeAny (model prog w) A (.call (.ref fI) ⟨.ref (h.objs.size + 1) :: rest, kw⟩)
      (fun r s' => match r with | .ok (.ret v) => v = .none ∧ Q (.done (.ret (.ref (h.objs.size + 1)))) s' | .ok _ => False | .error e => E e s')
      ⟨(h.push (W.kdv_tup rest)).push (excO C h.objs.size), g, d, t, os⟩) :
    wpAny (model prog w) A (Builtin.«type.__call__» ⟨.ref C :: rest, kw⟩) Q E ⟨h, g, d, t, os⟩ := by
  repeat (first | with_reducible refine wpAny_loadPart_at hC ?_ | with_reducible refine wpAny_madeBy_exc hC ?_ | wp_step)
  refine codeAny_call_builtin_code (Code.quiet_builtin _ F.quiet) (check_new_kw F hT hC ?_)
  refine new_kw F hT hC ?_ hrest
  show wpAny _ _ _ _ _ _
  have k : ∀ b o, h.get? b = some o → ((h.push (W.kdv_tup rest)).push (excO C h.objs.size)).get? b = some o := fun b o e => Heap.get?_push_of_some _ (Heap.get?_push_of_some _ e)
  have hC₁ := k _ _ hC
  have hget : ((h.push (W.kdv_tup rest)).push (excO C h.objs.size)).get? (h.objs.size + 1) = some (excO C h.objs.size) := by heap_get
  have hcC : (Value.ref C :: bm).contains (.ref C) = true := by simp
  have i1 := hi.keeps k
  have b1 := (hb (.ref (h.objs.size + 1))).keeps k
  unfold isInstance
  repeat (first | with_reducible refine wpAny_loadPart_at hget ?_ | (with_reducible refine wpAny_isSubtype_exc hC₁ ?_; rw [hcC]) | wp_step)
  show wpAny _ _ (typeLookup (.ref C) _) _ _ _
  refine i1.at ?_
  refine wpAny_holding (wpAny_bind (b1.at ?_))
  refine wpAny_bind (wpAny_call (codeAny_mono hq fun r s' z => ?_))
  rcases r with e | (v | _ | _ | _) <;> first | exact z | exact z.elim | skip
  obtain ⟨rfl, z⟩ := z
  first
    | exact wpAny_pure (wpAny_pure z)
    | (wp_walk; exact z)
/-- a call of the class with keywords, too -/
theorem call_kw (F : ExcBaseFacts B newId initId bmB) (hT : ∀ X : String, bm.contains (.type X) = bmB.contains (.type X)) {rest : List Value} {kw : List (Str × Value)} {fI : Addr}
    (hC : h.get? C = some (excClassObj nm q C N bs bm hdct sn sub ab col dd k0 k1 k2 k3 k5 newId))
    (hi : W.Looks (model prog w) h (typeLookup (.ref C) "__init__") (some (.ref fI))) (hb : ∀ self, W.Looks (model prog w) h (bindSpecial (.ref fI) self) (.ref fI, [self])) (hrest : rest.length ≤ sizeLine)
    (hq : codeAny (model prog w) (A.under (.builtin "type.__call__" ⟨.ref C :: rest, kw⟩)) (.call (.ref fI) ⟨.ref (h.objs.size + 1) :: rest, kw⟩) (W.InitBack (h.objs.size + 1) R)
      ⟨(h.push (W.kdv_tup rest)).push (excO C h.objs.size), g, d, t, os⟩) :
    codeAny (model prog w) A (.call (.ref C) ⟨rest, kw⟩) R ⟨h, g, d, t, os⟩ := by
  have f1 := tc_lookup
  have f2 := tc_bind (.ref C)
  have hTy : (⟨h, g, d, t, os⟩ : Shared).TypeIs (.ref C) "type" := ⟨_, hC, rfl⟩
  refine codeAny_of_tree ?_
  show wpAny _ _ (callAny (.ref C) _) _ _ _
  repeat (any_goals (first | assumption | with_reducible refine wpAny_loadPart_at hC ?_ | wp_step))
  refine ⟨rfl, ?_⟩
  refine codeAny_call_builtin_at (Code.quiet_builtin _ (by decide +kernel)) entry_typeCall (wpAny_check_type_call_sub hC (type_call_kw F hT hC hi hb hrest ?_))
  refine codeAny_mono hq fun r s' z => ?_
  rcases r with e | (v | _ | _ | _) <;> exact z
end
end SX

namespace SX
open PySem PySem.Spec PySem.W PySem.Calls PyProof.Rows L2 SF
/-- what the written part says of an own class of exceptions -/
structure ExK (K : Frag) (C : Addr) : Prop where
  b : ∃ (B newId initId : String) (bmB : List Value), ExcBaseFacts B newId initId bmB ∧ StoreFacts B bmB "object.__setattr__" "object" ∧ excInitIn K C bmB newId = true ∧ excOver K C bmB = true
  hd : hasDictIn K C = true
  sa : findIn K (.ref C) "__setattr__" = some (some (.builtin "object.__setattr__"))
  kC : keepIn K (.ref C) = true
section
variable {X : Cx} {pins : List (Addr × Obj)} {σ : L2.St} {H : Hp} {s : Shared} {a C dx : Addr} {f : Str} {y : V} {u : Value} {fs : List (Str × V)} {Q : Unit → Shared → Prop} {E : Value → Shared → Prop} {A : Around}
/-- self.f = y, the first one: the object's own dict is made -/
theorem set_new (T : ExK X.K C) (I : Inv X pins σ H s) (e : H a = some (exo a C none)) (hno : NoAttr X.K C f) (ry : RelV y u)
    (h : ∀ dx s', H dx = none → dx ≠ a → Inv X pins σ (upd (upd H dx (exd dx [(f, y)])) a (exo a C (some dx))) s' → Q () s') : wpAny (model X.prog X.w) A (setAttr (.ref a) f u) Q E s := by
  obtain ⟨B, newId, initId, bmB, _, SF, _, ho⟩ := T.b
  obtain ⟨t1, hx⟩ := exo_at I.hok e
  obtain ⟨cd, hc, hd'⟩ := any_some T.hd
  obtain ⟨hp, g, d, t, os⟩ := s
  refine set_plain I.kIn (ox := { cls := .ref C, dict := none, data := .fields #[.ref t1, .none, .none, .none, .bool false, .none] }) (od := none) ⟨hx, rfl, rfl, trivial⟩ T.sa ?_
  refine osa_openX (s := ⟨hp, g, d, t + 1, os⟩) (od := none) SF I.kIn ⟨hx, rfl, rfl, trivial⟩ ho hno.taker fun b => ?_
  have hxs : a ≠ hp.objs.size := Nat.ne_of_lt (Heap.lt_size hx)
  have hnd : H hp.objs.size = none := I.hok.fresh (Nat.le_refl _)
  refine wpAny_bind (wpAny_pure (wpAny_bind (instanceDict_exc (s := ⟨hp, g, d, t + 1, os⟩) hx (looks_clsIn I.kIn hc) hd' ?_)))
  show wpAny _ _ (Builtin.ObjectAttr.storeInDict hp.objs.size (.str f t) f u) _ _ _
  refine HandSPX.store_in_new ⟨_, #[], _, (Heap.get?_update_ne _ _ _ _ hxs.symm).trans (Heap.get?_push_at rfl rfl), rfl, fun e he => absurd he (by simp), fun _ => rfl⟩ fun h' tk' hn' hs => ?_
  have hx1 : (hp.push { cls := .type "dict", data := .dict #[] }).get? a = some { cls := .ref C, data := .fields #[.ref t1, .none, .none, .none, .bool false, .none] } := Heap.get?_push_of_some _ hx
  have k : ∀ b o, b ≠ a → hp.get? b = some o → h'.get? b = some o := fun b o hb q => (hs.2 b (Nat.ne_of_lt (Heap.lt_size q))).trans ((Heap.get?_update_ne _ _ _ _ hb).trans (Heap.get?_push_of_some _ q))
  have hx2 : h'.get? a = some { cls := .ref C, dict := some hp.objs.size, data := .fields #[.ref t1, .none, .none, .none, .bool false, .none] } := (hs.2 a hxs).trans (Heap.get?_update_self _ hx1 rfl)
  have nd : ∀ {b : Addr} {o : Obj}, hp.get? b = some o → b ≠ hp.objs.size := fun {b o} q => Nat.ne_of_lt (Heap.lt_size q)
  have na : ∀ {b : Addr}, H b = none → b ≠ a := fun {b} n z => by
    rw [z, e] at n
    cases n
  have U : Un X.fs [] H (upd (upd H hp.objs.size (exd hp.objs.size [(f, y)])) a (exo a C (some hp.objs.size))) hp h' := {
    keep := fun b o q n _ _ => k b o (na n) q
    slot := fun b o q n _ _ => ⟨o.slots, k b o (na n) q⟩
    free := fun b o q n _ => by rw [upd_ne (na n), upd_ne (nd q)]; exact n
    there := fun b o q _ => by
      by_cases hb : b = a
      · exact ⟨_, by rw [hb]; exact hx2⟩
      · exact ⟨o, k b o hb q⟩
    tups := fun b xs q => by rw [upd_ne (at_ne e q exo_tup), upd_ne (ne_of_none q hnd)]; exact q
    frzs := fun b o v q => by rw [upd_ne (at_ne e q exo_frz), upd_ne (ne_of_none q hnd)]; exact q
    tbls := fun b ps q => ⟨#[], by rw [upd_ne (at_ne e q exo_tbl), upd_ne (ne_of_none q hnd), q]; simp⟩ }
  refine h hp.objs.size _ hnd hxs.symm (I.un (t' := tk') U fun b o q => ?_)
  by_cases hb : b = a
  · subst hb
    rw [upd_same] at q
    cases q
    exact exo_ok hx2
  · rw [upd_ne hb] at q
    by_cases hd : b = hp.objs.size
    · subst hd
      rw [upd_same] at q
      cases q
      exact exd_ok hn' (relO_put (fs := []) ry fun g => True.intro)
    · rw [upd_ne hd] at q
      exact (I.hok b o q).stay (fun c v hc z => k c v (by
          rcases hc with hc | hc
          · rw [hc]
            exact hb
          · exact at_ne e hc exo_own) z)
        (fun c hc => by rw [upd_ne (at_ne e hc exo_own), upd_ne (ne_of_none hc hnd)]; exact hc) (fun c xs hc => by rw [upd_ne (at_ne e hc exo_tup), upd_ne (ne_of_none hc hnd)]; exact hc)
/-- self.f = y, a further one -/
theorem set_more (T : ExK X.K C) (I : Inv X pins σ H s) (e : H a = some (exo a C (some dx))) (ed : H dx = some (exd dx fs)) (hl : fs.length ≤ 900) (hno : NoAttr X.K C f) (ry : RelV y u)
    (h : ∀ s', Inv X pins σ (upd H dx (exd dx ((f, y) :: fs))) s' → Q () s') : wpAny (model X.prog X.w) A (setAttr (.ref a) f u) Q E s := by
  obtain ⟨B, newId, initId, bmB, _, SF, _, ho⟩ := T.b
  obtain ⟨t1, hx⟩ := exo_at I.hok e
  obtain ⟨mA, hns, rel⟩ := exd_at I.hok ed
  obtain ⟨cd, hc, hd'⟩ := any_some T.hd
  have hw := within_of rel
  obtain ⟨hp, g, d, t, os⟩ := s
  obtain ⟨oD, _, _, hoD, _, _⟩ := hns.count hw
  refine set_plain I.kIn (ox := { cls := .ref C, dict := some dx, data := .fields #[.ref t1, .none, .none, .none, .bool false, .none] }) (od := some oD) ⟨hx, rfl, rfl, hoD⟩ T.sa ?_
  refine osa_openX (s := ⟨hp, g, d, t + 1, os⟩) (od := some oD) SF I.kIn ⟨hx, rfl, rfl, hoD⟩ ho hno.taker fun b => ?_
  refine wpAny_bind (wpAny_pure (wpAny_bind (wpAny_bind (wpAny_loadPart hx (wpAny_bind ((looks_clsIn I.kIn hc).at ?_))))))
  rw [hd']
  refine wpAny_pure (a := some dx) ?_
  show wpAny _ _ (Builtin.ObjectAttr.storeInDict dx (.str f t) f u) _ _ _
  refine PySem.OEX.store_in_old hns hw (by rw [List.length_map]; omega) fun h' tk' hn hs => ?_
  have hd : ∃ o, h'.get? dx = some o := by
    obtain ⟨o, _, _, e', _⟩ := hn
    exact ⟨o, e'⟩
  exact h _ (I.write (t' := tk') (x := dx) (e := dx) (o := exd dx ((f, y) :: fs)) (by rw [ed]; exact True.intro) (.inl rfl) (fun b o hb q => (hs.2 b hb).trans q) hd (exd_ok hn (relO_put ry rel)))
end
/-- self.f = e of such an exception -/
def tSetX (K : PySem.W.Frag) (f : Str) (to te : TE) : TS := fun D σ H => te σ H fun y H1 => to σ H1 fun x H2 => ∃ a C : Addr, x = .ref a ∧ ExK K C ∧ NoAttr K C f ∧
  ((H2 a = some (exo a C none) ∧ ∀ dx, H2 dx = none → dx ≠ a → D.nx σ (upd (upd H2 dx (exd dx [(f, y)])) a (exo a C (some dx)))) ∨
    ∃ (dx : Addr) (fs : List (Str × V)), H2 a = some (exo a C (some dx)) ∧ H2 dx = some (exd dx fs) ∧ fs.length ≤ 900 ∧ D.nx σ (upd H2 dx (exd dx ((f, y) :: fs))))
/-- C(e, ..), the instance a value -/
def tMkX (C : Addr) (n m : Nat) (sp : Sp) (gV : List V → List V → List V) (t tk : TA) : TE := fun σ H Q => t σ H fun vs H1 => tk σ H1 fun zs H2 => vs.length = n ∧ zs.length = m ∧ n ≤ 1000 ∧
  ∀ a, H2 a = none → sp (gV (.ref a :: vs) zs) (upd H2 a (exo a C none)) (fun v H3 => v = .non ∧ Q (.ref a) H3) (fun _ _ _ => False)
section
variable {X : Cx} {CX : CXT} {k n : Nat} {fI C : Addr} {fd : FuncData} {ps ks : List Str} {sp : Sp} {x f : Str} {p p' pos : Pos} {e o : Expr} {es : List Expr} {kws : List Keyword} {to te : TE} {t tk : TA} {g : List Value → List Value → List Value} {gV : List V → List V → List V}
theorem ps_setX (ho : PE X o to) (he : PE X e te) (hs : swapsWith e (some (.Attribute o f p')) pos.line X.env = pure false := by rfl) : PS X (.Assign [.Attribute o f p'] e pos) (tSetX X.K f to te) := by
  refine ⟨fun pins s σ H D I h => ?_⟩
  refine plainObj_wpAny_Assign_Attribute (thn (he.run pins s σ H _ I h) fun v s1 ⟨y, H1, I1, r1, q1⟩ => thn (ho.run pins s1 σ H1 _ I1 q1) fun u s2 ⟨x, H2, I2, r2, a, C, ex, T, hno, q⟩ => ?_) hs
  subst ex
  obtain rfl : u = Value.ref a := r2
  rcases q with ⟨ea, q⟩ | ⟨dx, fs, ea, ed, hl, q⟩
  · exact set_new T I2 ea hno r1 fun dx s' n ne J => ⟨σ, _, J, q dx n ne⟩
  · exact set_more T I2 ea ed hl hno r1 fun s' J => ⟨σ, _, J, q⟩
theorem run_mkX {pins : List (Addr × Obj)} {σ : L2.St} {H : Hp} {s : Shared} {Q : VK} {us ws : List Value} {vs zs : List V} (T : ExK X.K C) (iC : PySem.W.findIn X.K (.ref C) "__init__" = some (some (.ref fI))) (tI : PySem.W.typeIn X.K (.ref fI) = some (.type "function"))
    (F : FnOk X.prog X.w X.K X.mg X.base CX k fI fd ps sp) (hr : Room (k + 1) X.A) (hb : KBn X.K fd ps (n + 1) ks g gV) (hx : Passes CX X (fun _ _ _ => False)) (I : Inv X pins σ H s) (r : Vals vs us) (rz : Vals zs ws) (l1 : vs.length = n) (l2 : zs.length = ks.length) (l3 : n ≤ 1000)
    (h : ∀ a, H a = none → sp (gV (.ref a :: vs) zs) (upd H a (exo a C none)) (fun v H3 => v = .non ∧ Q (.ref a) H3) (fun _ _ _ => False)) :
    wpAny (model X.prog X.w) X.A (call (.ref C) us (ks.zip ws)) (EP X pins σ Q) X.xe s := by
  obtain ⟨B, newId, initId, bmB, FB, _, hq, _⟩ := T.b
  obtain ⟨hp, gg, dr, tk, os⟩ := s
  obtain ⟨nm, N', qn, bs, bm, hdct, sn, sub, ab, col, dd, k0, k1, k2, k3, k5, hC, hT⟩ := excInit_of I.kIn hq
  have hsz : hp.objs.size ≤ hp.objs.size + 1 := Nat.le_succ _
  have hn : H (hp.objs.size + 1) = none := I.hok.fresh hsz
  have hq := h (hp.objs.size + 1) hn
  have kk : ∀ b o, hp.get? b = some o → ((hp.push (PySem.W.kdv_tup us)).push (PySem.HandSPX.excO C hp.objs.size)).get? b = some o := fun b o e => Heap.get?_push_of_some _ (Heap.get?_push_of_some _ e)
  have hget : ((hp.push (PySem.W.kdv_tup us)).push (PySem.HandSPX.excO C hp.objs.size)).get? (hp.objs.size + 1) = some (PySem.HandSPX.excO C hp.objs.size) := by heap_get
  have I2 : Inv X pins σ (upd H (hp.objs.size + 1) (exo (hp.objs.size + 1) C none)) ⟨(hp.push (PySem.W.kdv_tup us)).push (PySem.HandSPX.excO C hp.objs.size), gg, dr, tk, os⟩ :=
    I.laid (t' := tk) (a := hp.objs.size + 1) (o := exo (hp.objs.size + 1) C none) (h' := (hp.push (PySem.W.kdv_tup us)).push (PySem.HandSPX.excO C hp.objs.size)) kk hsz (exo_ok hget)
  have r1 : Vals (V.ref (hp.objs.size + 1) :: vs) (Value.ref (hp.objs.size + 1) :: us) := .cons rfl r
  have r2 := hb.rel r1 rz
  have n1 : (Value.ref (hp.objs.size + 1) :: us).length = n + 1 := by
    rw [List.length_cons, ← r.length, l1]
  have hus : us.length ≤ sizeLine := by
    rw [← r.length, sizeLine_eq]
    omega
  refine wpAny_call (call_kw FB hT hC (PySem.W.looks_findIn I.kIn iC) (fun self => PySem.W.bind_fn I.kIn self tI) hus
    (codeAny_mono (F.run _ X.stack _ _ ⟨Value.ref (hp.objs.size + 1) :: us, ks.zip ws⟩ (g (Value.ref (hp.objs.size + 1) :: us) ws) _ _ (fun _ _ _ => False) (hr.make C us (ks.zip ws)) (I2.env0.make C us (ks.zip ws))
      (hb.to _ (Value.ref (hp.objs.size + 1) :: us) ws I2.kIn n1 (rz.length.symm.trans l2)) r2 hq) fun r s' hq' => ?_))
  cases r with
  | error er => exact hx pins σ _ _ er s' I2 hq'
  | ok fl =>
    cases fl with
    | ret u =>
      obtain ⟨v, H', I3, rv, ev, q3⟩ := I2.after hq'
      subst ev
      exact ⟨rv, ⟨V.ref (hp.objs.size + 1), H', I3, rfl, q3⟩⟩
    | next => exact False.elim hq'
    | brk => exact False.elim hq'
    | cont => exact False.elim hq'
/-- a def without defaults, called by position alone -/
theorem kbn_of (hb : Binds X.K fd ps []) (hl : ps.length = n) : KBn X.K fd ps n [] (fun us _ => us) (fun vs _ => vs) :=
  ⟨fun s us ws KX h1 h2 => by
    have e : ws = [] := List.length_eq_zero_iff.mp h2
    subst e
    have z := hb s us KX (by rw [List.append_nil, h1, hl])
    rw [List.append_nil] at z
    exact z, fun r _ => r⟩
/-- C(e, ..) -/
theorem pe_mkX (T : ExK X.K C) (iC : PySem.W.findIn X.K (.ref C) "__init__" = some (some (.ref fI))) (tI : PySem.W.typeIn X.K (.ref fI) = some (.type "function"))
    (F : FnOk X.prog X.w X.K X.mg X.base CX k fI fd ps sp) (hr : Room (k + 1) X.A) (hg : Gl X x) (hm : X.mg x = some (.ref C)) (hb : Binds X.K fd ps []) (hl : ps.length = n + 1) (hx : Passes CX X (fun _ _ _ => False))
    (ha : PA X (e :: es) t) (hdb : (x == ("__debug__" : Str)) = false := by decide) (he : starEach (e :: es) X.env = (false, eval e X.env) :: starEach es X.env := by rfl) (hpl : (backTo pos (starEach es X.env)).any (·.1) = false := by rfl) :
    PE X (.Call (.Name x p) (e :: es) [] pos) (tMkX C n 0 sp (fun vs _ => vs) t tNil) := by
  refine ⟨fun pins s σ H Q I h => ?_⟩
  refine wpAny_Call_Name_kw (ld_glob I hg hm ?_ hdb)
  refine PySem.W.callWith_K (h₀ := X.base) I.ok.mod.kin T.kC (thn (ha.run pos pins s σ H _ I h) fun us s1 ⟨vs, H1, I1, r, q⟩ => ⟨I1.kIn, ?_⟩) he hpl
  obtain ⟨q1, q2, q3, q4⟩ := q
  exact run_mkX (ks := []) (ws := []) T iC tI F hr (kbn_of hb hl) hx I1 r .nil q1 rfl q3 q4
/-- C(f = e, ..) -/
theorem pe_mkXK (T : ExK X.K C) (iC : PySem.W.findIn X.K (.ref C) "__init__" = some (some (.ref fI))) (tI : PySem.W.typeIn X.K (.ref fI) = some (.type "function"))
    (F : FnOk X.prog X.w X.K X.mg X.base CX k fI fd ps sp) (hr : Room (k + 1) X.A) (hg : Gl X x) (hm : X.mg x = some (.ref C)) (hb : KBn X.K fd ps 1 ks g gV) (hx : Passes CX X (fun _ _ _ => False)) (hkw : PK X kws tk)
    (hall : (backToKw pos (keywordEach kws X.env)).all (·.1.isSome) = true := by rfl) (hks : (backToKw pos (keywordEach kws X.env)).filterMap (·.1) = ks := by rfl) (hdb : (x == ("__debug__" : Str)) = false := by decide)
    (hpl : ((backTo pos (starEach [] X.env)).any (·.1) || (backToKw pos (keywordEach kws X.env)).any (·.1.isNone)) = false := by rfl) :
    PE X (.Call (.Name x p) [] kws pos) (tMkX C 0 ks.length sp gV tNil tk) := by
  refine ⟨fun pins s σ H Q I h => ?_⟩
  refine wpAny_Call_Name_kw (ld_glob I hg hm ?_ hdb)
  refine PySem.W.callWith_KW0 (h₀ := X.base) I.ok.mod.kin T.kC hall ?_ hpl
  refine thn (hkw.run pos pins s σ H _ I h) fun ws s2 ⟨zs, H2, I2, rz, l1, l2, l3, q2⟩ => ⟨I2.kIn, ?_⟩
  rw [hks]
  exact run_mkX (us := []) (vs := []) T iC tI F hr hb hx I2 .nil rz rfl l2 (by decide) q2
/-- C(), a class without own __init__ -/
theorem pe_mkX0 {bmB : List Value} {B newId initId : String} (F : ExcBaseFacts B newId initId bmB) (q : PySem.W.excIn X.K C bmB newId = true) (hm : X.mg x = some (.ref C)) (kC : PySem.W.keepIn X.K (.ref C) = true) (hg : Gl X x) (hdb : (x == ("__debug__" : Str)) = false := by decide) :
    PE X (.Call (.Name x p) [] [] pos) (fun σ H Q => ∀ a, H a = none → Q (.ref a) (upd H a (ExO (.ref C) a))) := by
  refine ⟨fun pins s σ H Q I h => ?_⟩
  refine wpAny_Call_Name_kw (ld_glob I hg hm ?_ hdb)
  refine PySem.W.callWith_K0 I.kIn kC ?_
  show wpAny _ _ (call (.ref C) []) _ _ _
  obtain ⟨bm, N, nm, qn, bs, hdct, sn, sub, ab, col, dd, k0, k1, k2, k3, k5, mN, hC, hN, hni, T⟩ := exc_obj I.kIn q
  refine wpAny_call_exc_subT F T hC hN hni (fun h' a hm => ?_) (by show 0 ≤ sizeLine; exact Nat.zero_le _)
  have hn : H a = none := I.hok.gone hm.new
  obtain ⟨t, ht, _, _⟩ := hm.there
  exact ⟨.ref a, upd H a (ExO (.ref C) a), I.laidN hm.keeps hm.new hn (exO_ok ht ⟨rfl, rfl⟩ rfl rfl rfl (show 4 < 6 by decide)), rfl, h a hn⟩
end
end SX

/-! list.count of flat things; repr of things of any depth. -/
namespace SX
open PySem PySem.Spec PyProof.Rows PyProof.V L2 SF
section
variable {X : Cx}
theorem count_eqU {y : V} : ∀ {xs : List V} {us : List Value}, Vals xs us → xs.all flatV = true → us.countP (eqU y) = xs.countP (fun z => eqV z y)
  | _, _, .nil, _ => rfl
  | x :: xs, u :: us, .cons r t, f => by
    rw [List.all_cons, Bool.and_eq_true] at f
    rw [List.countP_cons, List.countP_cons, count_eqU t f.2, eqU_of r f.1]
/-- xs.count(y), flat -/
def rCountF (K : PySem.W.Frag) : V → List V → Hp → VK → Prop := fun x xs H Q => ∃ (a : Addr) (ys : List V) (y : V), x = .ref a ∧ xs = [y] ∧ SqL K H a ys ∧ flatV y = true ∧ ys.all flatV = true ∧ Q (.int (ys.countP (fun z => eqV z y) : Nat)) H
theorem mt_countF : MtR X "list.count" (rCountF X.K) := by
  intro pins s σ H x xs v us Q I rx rxs h
  obtain ⟨a, ys, y, rfl, rfl, hs, fy, fys, q⟩ := h
  cases rx
  obtain ⟨u, rfl, ru⟩ := rxs.one
  obtain ⟨its, rv, ⟨⟨cls, dd, data, sl⟩, n, ho, hc, hdn, hd⟩, hlen⟩ := I.list hs
  simp only at hc hd
  subst hc hd
  refine call_meets PySem.F.slot_list_count ⟨_, ho, rfl⟩ PySem.F.entry_list_count (PySem.F.args_list_count_2 _ _)
    (SeqAt.list_countAt a its.toArray n dd sl u (eqU y)) ⟨ho, fun u' hu' => mem_eqAt ru fy rv fys u' (by simpa using hu'), ?_⟩
  have ec : its.toArray.toList.countP (eqU y) = ys.countP (fun z => eqV z y) := count_eqU rv fys
  refine ⟨.int (ys.countP (fun z => eqV z y) : Nat), H, I.tok _, ⟨s.toks, ?_⟩, q⟩
  show Value.int ((its.toArray.toList.countP (eqU y) : Nat) : Int) s.toks = _
  rw [ec]
/-- a list's display; its place is told not to be the table of modules -/
def tLstS (t : TA) : TE := fun σ H Q => t σ H fun xs H1 => xs.length ≤ sizeLine ∧ ∀ p, H1 p = none → p ≠ sysModules → Q (.ref p) (upd H1 p (.lst xs))
theorem pe_lstS {es : List Expr} {pos : Pos} {t : TA} (h : PA X es t) : PE X (.List es pos) (tLstS t) := by
  refine ⟨fun pins s σ H Q I hq => ?_⟩
  refine wpAny_List_spliced (thn (h.run pos pins s σ H _ I hq) fun us s1 ⟨xs, H1, I1, r, z, q⟩ => ⟨by rw [← r.length]; exact z, ?_⟩)
  have hf : H1 s1.heap.objs.size = none := I1.hok.fresh (Nat.le_refl _)
  refine ⟨.ref s1.heap.objs.size, upd H1 s1.heap.objs.size (.lst xs), I1.laid (t' := s1.toks) (fun b u e => Heap.get?_push_of_some _ e) (Nat.le_refl _) ?_, rfl, q _ hf (Nat.ne_of_gt I1.big)⟩
  exact ⟨z, us, 0, r, Heap.get?_push_size _ rfl⟩
end
/-! ### repr of things of any depth -/
def keyD : Key → PyData
  | .inl i => .int i
  | .inr x => .str x
mutual
/-- what stands there, lists and dicts apart from the table of modules -/
inductive Sd (H : Hp) : V → PyData → Prop
  | non : Sd H .non .none
  | bl (b : Bool) : Sd H (.bl b) (.bool b)
  | int (i : Int) : Sd H (.int i) (.int i)
  | str (x : Str) : Sd H (.str x) (.str x)
  | lst {a : Addr} {xs : List V} {ds : List PyData} : a ≠ sysModules → H a = some (.lst xs) → SdAll H xs ds → Sd H (.ref a) (.list ds)
  | tup {a : Addr} {xs : List V} {ds : List PyData} : H a = some (.tup xs) → SdAll H xs ds → Sd H (.ref a) (.tuple ds)
  | dct {a : Addr} {kvs : List (Key × V)} {D : List (PyData × PyData)} : H a = some (.dK kvs) → SdP H kvs D → Sd H (.ref a) (.dict D)
inductive SdAll (H : Hp) : List V → List PyData → Prop
  | nil : SdAll H [] []
  | cons {v : V} {vs : List V} {d : PyData} {ds : List PyData} : Sd H v d → SdAll H vs ds → SdAll H (v :: vs) (d :: ds)
inductive SdP (H : Hp) : List (Key × V) → List (PyData × PyData) → Prop
  | nil : SdP H [] []
  | cons {k : Key} {v : V} {kvs : List (Key × V)} {d : PyData} {D : List (PyData × PyData)} : Sd H v d → SdP H kvs D → SdP H ((k, v) :: kvs) ((keyD k, d) :: D)
end
mutual
theorem Sd.same {H H' : Hp} (s : ∀ b o, H b = some o → H' b = some o) : ∀ {v : V} {d : PyData}, Sd H v d → Sd H' v d
  | _, _, .non => .non
  | _, _, .bl b => .bl b
  | _, _, .int i => .int i
  | _, _, .str x => .str x
  | _, _, .lst n e h => .lst n (s _ _ e) (SdAll.same s h)
  | _, _, .tup e h => .tup (s _ _ e) (SdAll.same s h)
  | _, _, .dct e h => .dct (s _ _ e) (SdP.same s h)
theorem SdAll.same {H H' : Hp} (s : ∀ b o, H b = some o → H' b = some o) : ∀ {vs : List V} {ds : List PyData}, SdAll H vs ds → SdAll H' vs ds
  | _, _, .nil => .nil
  | _, _, .cons a b => .cons (Sd.same s a) (SdAll.same s b)
theorem SdP.same {H H' : Hp} (s : ∀ b o, H b = some o → H' b = some o) : ∀ {vs : List (Key × V)} {ds : List (PyData × PyData)}, SdP H vs ds → SdP H' vs ds
  | _, _, .nil => .nil
  | _, _, .cons a b => .cons (Sd.same s a) (SdP.same s b)
end
theorem keyReads {P : Program} {w : World} {h : Heap} (k : Key) (key : Value) (e : (mixKind P w).is k key = true) : Reads h key (keyD k) [] := by
  rcases keyIs_shape (show keyIs k key = true from e) with ⟨i, t, rfl, rfl⟩ | ⟨x, t, rfl, rfl⟩
  · exact .int i t
  · exact .str x t
section
variable {P : Program} {w : World} {H : Hp} {h : Heap}
mutual
theorem Sd.reads (ok : HOk P w H h) : ∀ {v : V} {d : PyData} {u : Value}, Sd H v d → RelV v u → ∃ as, Reads h u d as ∧ sysModules ∉ as
  | _, _, _, .non, r => by cases (show _ = Value.none from r); exact ⟨_, .none, by simp⟩
  | _, _, _, .bl b, r => by cases (show _ = Value.bool b from r); exact ⟨_, .bool b, by simp⟩
  | _, _, u, .int i, r => by obtain ⟨t, rfl⟩ := (show ∃ t, u = Value.int i t from r); exact ⟨_, .int i t, by simp⟩
  | _, _, u, .str x, r => by obtain ⟨t, rfl⟩ := (show ∃ t, u = Value.str x t from r); exact ⟨_, .str x t, by simp⟩
  | _, _, u, .lst (a := a) (xs := xs) n e q, r => by
    cases (show u = Value.ref a from r)
    obtain ⟨_, its, m, rv, e1⟩ := (show ObjOk P w H h a (.lst xs) from ok a _ e)
    obtain ⟨as, b, z⟩ := SdAll.reads ok q rv
    exact ⟨_, .list e1 rfl rfl (by simpa using b), by simp [Ne.symm n, z]⟩
  | _, _, u, .tup (a := a) (xs := xs) e q, r => by
    cases (show u = Value.ref a from r)
    obtain ⟨_, its, rv, o, e1, e2, m, e3⟩ := (show ObjOk P w H h a (.tup xs) from ok a _ e)
    obtain ⟨as, b, z⟩ := SdAll.reads ok q rv
    exact ⟨_, .tuple e1 e2 e3 (by simpa using b), z⟩
  | _, _, u, .dct (a := a) (kvs := kvs) e q, r => by
    cases (show u = Value.ref a from r)
    obtain ⟨_, hm, vs, rv, e1⟩ := (show ObjOk P w H h a (.dK kvs) from ok a _ e)
    obtain ⟨bs, b, z⟩ := SdP.reads ok q rv
    have na : sysModules ≠ a := fun y => by rw [y] at hm; simp at hm
    exact ⟨_, reads_dictOf (keyReads (P := P) (w := w)) e1 b, by simp [na, z]⟩
theorem SdAll.reads (ok : HOk P w H h) : ∀ {vs : List V} {ds : List PyData} {us : List Value}, SdAll H vs ds → Vals vs us → ∃ as, ReadsAll h us ds as ∧ sysModules ∉ as
  | _, _, _, .nil, .nil => ⟨_, .nil, by simp⟩
  | _, _, _, .cons a b, .cons r t => by
    obtain ⟨as, h1, z1⟩ := Sd.reads ok a r
    obtain ⟨bs, h2, z2⟩ := SdAll.reads ok b t
    exact ⟨_, .cons h1 h2, by simp [z1, z2]⟩
theorem SdP.reads (ok : HOk P w H h) : ∀ {kvs : List (Key × V)} {D : List (PyData × PyData)} {vs : List (Key × Value)}, SdP H kvs D → KV kvs vs → ∃ bs, PairsRead h keyD vs D bs ∧ sysModules ∉ bs
  | _, _, _, .nil, .nil => ⟨_, .nil, by simp⟩
  | (k, v) :: _, _, (k', u) :: _, .cons a b, .cons r t => by
    obtain ⟨rk, rv⟩ := r
    dsimp only at rk rv
    subst rk
    obtain ⟨as, h1, z1⟩ := Sd.reads ok a rv
    obtain ⟨bs, h2, z2⟩ := SdP.reads ok b t
    exact ⟨_, .cons h1 h2, by simp [z1, z2]⟩
end
end
section
variable {X : Cx}
/-- repr of a list, a tuple or a dict -/
def rReprS : List V → Hp → VK → Prop := fun xs H Q => ∃ (a : Addr) (d : PyData), xs = [V.ref a] ∧ Sd H (.ref a) d ∧ d.showable = true ∧ d.depth ≤ 8 ∧ d.shown.length ≤ sizeLine ∧ Q (.str d.shown) H
theorem call_reprS {k : Nat} (hg : X.A.guards = some []) (hr : Room k X.A) : CallR X (.builtin "repr") rReprS := by
  intro pins s σ H xs us Q I r h
  obtain ⟨a, d, rfl, hd, h1, h2, h3, q⟩ := h
  obtain ⟨u, rfl, ru⟩ := r.one
  cases (show u = Value.ref a from ru)
  obtain ⟨as, R, hm⟩ := Sd.reads I.hok hd (u := .ref a) rfl
  refine repr_of_reads' R h1 (fun _ => hm) hg (by have := hr.units; omega) (fun _ _ e => e) (fun h' u tk hk => ?_) h3
  exact ⟨.str _, H, I.kept hk, ⟨u, rfl⟩, q⟩
end
end SX

/-! try .. except (A, B, C) as n, where each error is one of them; defs that are called with the error in hand. -/
namespace SFT
open PySem PySem.Spec PyProof.Rows L2 SF L2H
theorem flyingZ_keeps {B h h' : Heap} {l : List Env} {e : Addr} {Z : Obj → Prop} (x : HandSPX.FlyingZ B l e Z h) (k : ∀ b o, h.get? b = some o → h'.get? b = some o) : HandSPX.FlyingZ B l e Z h' := by
  obtain ⟨f1, f2, f3, oe, vs, T, oT, ts, he, hz, hd, h1, hn, hne, hT, hdT, h3⟩ := x
  exact ⟨fun b o q => k b o (f1 b o q), f2, f3.of_keeps fun b o q _ => ⟨o, k b o q, rfl⟩, oe, vs, T, oT, ts, k _ _ he, hz, hd, h1, hn, hne, k _ _ hT, hdT, h3⟩
/-- what the clause 'except (..) as n' wishes of an exception of the body -/
def wTup (K : PySem.W.Frag) (cs : List Value) (i : Nat) (ts : Addr → Value → Option Addr → TS) (D : Ends) : WX := fun cls d σ H =>
  PySem.W.exmAny K cls cs = some true ∧ ∀ a, H a = none → ts a cls d { nx := fun σ' H' => D.nx (σ'.set i none) H', rt := D.rt, bk := fun σ' H' => D.bk (σ'.set i none) H', ct := fun σ' H' => D.ct (σ'.set i none) H' } (σ.set i (some (.ref a))) H
section
variable {X : Cx} {x1 x2 x3 n : Str} {c1 c2 c3 : Value} {i kk : Nat} {body suite : List Stmt} {b₀ : Stmt} {np1 np2 np3 tpos pos pos' : Pos} {tb : WX → TS} {ts : Addr → Value → Option Addr → TS}
theorem ps_try_tup3 (hs : X.stack = X.env :: X.outer) (hf : X.env.frame = some X.env.locals) (hN : X.N.Nodup) (hi : X.N[i]? = some n) (hln : X.env.kindOf n = some .local) (hc1 : Names X x1 c1) (hc2 : Names X x2 c2) (hc3 : Names X x3 c3)
    (hb : ∀ (W : WX) (pn : List (Addr × Obj)) (xe : Value → Shared → Prop), (∀ q ∈ X.pn, q ∈ pn) → Takes (X.tr pn xe) W → PassesOwn (model X.prog X.w) X.A X.env xe → PSs (X.tr pn xe) body (tb W))
    (hsu : ∀ (a : Addr) (oe : Obj) (cls : Value) (d : Option Addr) (pn : List (Addr × Obj)), Zc cls d oe → (∃ vs, oe.data = .fields vs) → PSs (X.suite a ((a, oe) :: pn)) (b₀ :: suite) (ts a cls d)) :
    PS X (.Try body [.ExceptHandler (some (.Tuple [.Name x1 np1, .Name x2 np2, .Name x3 np3] kk tpos)) (some n) (b₀ :: suite) pos'] [] [] pos) (fun D σ H => tb (wTup X.K [c1, c2, c3] i ts D) D σ H) := by
  refine ⟨fun pins s σ H D I h => ?_⟩
  have ok := I.ok
  have hfr : X.A.frames = some (X.env :: X.outer) := by rw [ok.frames, hs]
  have hloc : Loc X.env.scope n := .inl hln
  refine wpAny_Try_except ?_
  refine wpAny_mono ((hb (wTup X.K [c1, c2, c3] i ts D) (X.pn ++ pins) (fun e s₁ => wpAny (model X.prog X.w) X.A (noteFrame e X.env) (fun _ s₂ => wpAny (model X.prog X.w) X.A (setFlight e none) (fun _ s₃ =>
    wpAny (model X.prog X.w) X.A (handleBy e X.env [.ExceptHandler (some (.Tuple [.Name x1 np1, .Name x2 np2, .Name x3 np3] kk tpos)) (some n) (b₀ :: suite) pos']) (SP X pins D) X.xe s₃) X.xe s₂) X.xe s₁) (fun q hq => List.mem_append_left _ hq) (fun u s' xx => ?_) PassesOwn.looking).run [] s σ H D (I.toTry _) h) (fun f s1 hsp => ?_) (fun e s1 he => he)
  · -- the catch
    obtain ⟨a, B, sI, pins', σ', H', cls, d, rfl, J', nb, up, sky, na, os, ag, hb1, hyes⟩ := xx
    have J : Inv X pins σ' H' sI := J'.ofTry ok
    have sky' : Sky B (X.env :: X.outer) a (Zc cls d) X.env.locals s'.heap := by rw [← hs]; exact sky
    show wpAny (model X.prog X.w) X.A (noteFrame (.ref a) X.env) _ _ _
    refine Sky.land Zc.steady hfr hf sky' fun h3 fl3 up3 => ?_
    have J3 : Inv X pins σ' H' { s' with heap := h3 } := J.landed nb fl3.1 (up.trans up3) os ag
    obtain ⟨oe3, vs3, he3, hz3, hd3⟩ := fl3.there
    have notFr : ∀ {h : Heap} {o : Obj} {vs : Array Value}, h.FunFrames B (X.env :: X.outer) → h.get? a = some o → o.data = .fields vs → a ∉ frs (X.env :: X.outer) := fun {h o vs} ff e dd hm => by
      obtain ⟨_, o', e', hnf⟩ := ff.mem hm
      rw [e] at e'; cases e'
      exact hnf _ dd
    have nfr := notFr fl3.2.2.1 he3 hd3
    have nL : a ≠ X.env.locals := fun z => nfr (List.mem_filterMap.mpr ⟨X.env, List.mem_cons_self, by rw [hf, z]⟩)
    have nF : a ∉ X.fs := fun hm => by
      obtain ⟨e, he, q⟩ := List.mem_filterMap.mp hm
      exact nfr (List.mem_filterMap.mpr ⟨e, List.mem_cons_of_mem _ he, q⟩)
    have S3 := J3.suite he3 hd3 na nL nF
    refine wpAny_handleBy_cons (codeAny_handlers_test ?_) (by intro q; cases q)
    have LT : PySem.W.Looks (model X.prog X.w) h3 (typeOf (.ref a)) cls := fun A Q E s k q => wpAny_typeOf_ref (k _ _ he3) (by rw [hz3.1]; exact q)
    have test : ∀ {x : Str} {c : Value} {np : Pos} {Q : Value → Shared → Prop} {E : Value → Shared → Prop}, Names X x c → Q c { s' with heap := h3 } → wpAny (model X.prog X.w) (X.A.mark (some (.ref a))) (eval (.Name x np) X.env) Q E { s' with heap := h3 } := fun {x c np Q E} hc q => by
      obtain ⟨hg, hdbg, hm | ⟨hm, hv, hnn⟩⟩ := hc
      · exact ld_glob (X := X.suite a ((a, oe3) :: (X.pn ++ pins))) S3 hg hm q hdbg
      · exact ld_blt (X := X.suite a ((a, oe3) :: (X.pn ++ pins))) S3 hg hm hv q hnn hdbg
    refine wpAny_Tuple ?_
    refine wpAny_items_cons (test hc1 ?_)
    refine wpAny_items_cons (test hc2 ?_)
    refine wpAny_items_cons (test hc3 ?_)
    refine wpAny_items_nil ⟨by size_fits, ?_⟩
    have kp : ∀ q o, h3.get? q = some o → (h3.push { cls := .type "tuple", data := .seq [c1, c2, c3].toArray }).get? q = some o := fun _ _ z => Heap.get?_push_of_some _ z
    have fl3' := flyingZ_keeps fl3 kp
    have LM := PySem.W.exm_tup3 (M := model X.prog X.w) ((J3.kIn).keeps kp) (LT.keeps kp) (Heap.get?_push_size h3 rfl) hb1
    refine LM.here ?_
    refine codeAny_handlers_suite_as ?_
    refine HandSPX.lands_againZ (s := { s' with heap := h3.push { cls := .type "tuple", data := .seq [c1, c2, c3].toArray } }) fl3' fun h4 fl4 up4 => ?_
    have J4 : Inv X pins σ' H' { s' with heap := h4 } := J.landed nb fl4.1 (((up.trans up3).trans (Heap.UpToSlots.of_keeps kp)).trans up4) os ag
    obtain ⟨oe4, vs4, he4, hz4, hd4⟩ := fl4.there
    have S4 := J4.suite he4 hd4 na nL nF
    refine store_ok (X := X.suite a ((a, oe4) :: (X.pn ++ pins))) (v := .ref a) S4 hN hi hloc rfl (fun s5 S5 => ?_) (.inr hln)
    refine wpAny_mono ((hsu a oe4 cls d (X.pn ++ pins) hz4 ⟨_, hd4⟩).run [] s5 _ H' _ S5 (hyes a na)) (fun f s6 hsp => ?_) (fun _ _ z => False.elim z)
    have end_ : ∀ {σ6 : L2.St} {H6 : Hp} {Q : Shared → Prop}, Inv (X.suite a ((a, oe4) :: (X.pn ++ pins))) [] σ6 H6 s6 → (∀ s7, Inv X pins (σ6.set i none) H6 s7 → Q s7) →
        wpAny (model X.prog X.w) X.A (do bindName X.env n .none; unbindBehindTheSuite X.env n pos') (fun _ s7 => Q s7) X.xe s6 := fun {σ6 H6 Q} S6 hq => gone_ok (S6.unsuite ok) hN hi hln hq
    cases f with
    | next =>
      obtain ⟨σ6, H6, S6, q6⟩ := hsp
      exact end_ S6 fun s7 J7 => ⟨_, _, J7, q6⟩
    | brk =>
      obtain ⟨σ6, H6, S6, q6⟩ := hsp
      exact end_ S6 fun s7 J7 => ⟨_, _, J7, q6⟩
    | cont =>
      obtain ⟨σ6, H6, S6, q6⟩ := hsp
      exact end_ S6 fun s7 J7 => ⟨_, _, J7, q6⟩
    | ret u =>
      obtain ⟨v6, σ6, H6, S6, r6, q6⟩ := hsp
      exact end_ S6 fun s7 J7 => ⟨_, _, _, J7, r6, q6⟩
  · cases f with
    | next =>
      obtain ⟨σ', H', J', q⟩ := hsp
      exact wpAny_execs_nil ⟨σ', H', J'.ofTry ok, q⟩
    | brk =>
      obtain ⟨σ', H', J', q⟩ := hsp
      exact ⟨σ', H', J'.ofTry ok, q⟩
    | cont =>
      obtain ⟨σ', H', J', q⟩ := hsp
      exact ⟨σ', H', J'.ofTry ok, q⟩
    | ret u =>
      obtain ⟨v, σ', H', J', r, q⟩ := hsp
      exact ⟨v, σ', H', J'.ofTry ok, r, q⟩
end
/-! ### a def that is called with the error p in hand -/
structure FnP (P : Program) (w : World) (K : PySem.W.Frag) (mg : Str → Option Value) (base : Heap) (CX : CXT) (k : Nat) (p : Addr × Obj) (f : Addr) (fd : FuncData) (ps : List Str) (sp : Sp) : Prop where
  len : ∀ vs H Q E, sp vs H Q E → vs.length = ps.length
  run : ∀ (A : Around) (outer : List Env) (s : Shared) (H : Hp) (args : Args) (us : List Value) (vs : List V) (Q : VK) (E : XK), A.guards = some [] → RoomH k A → PinOk outer H s p → Env0 P w K mg base A outer s H → BindsTo s fd args (ps.zip us) → Vals vs us → sp vs H Q E →
    codeAny (model P w) A (.call (.ref f) args) (CR CX outer P w H s Q E) s
theorem fn_ofP {CX : CXT} {P : Program} {w : World} {K : PySem.W.Frag} {mg : Str → Option Value} {base : Heap} {k : Nat} {f : Addr} {name qual : Str} {params : Arguments} {body : List Stmt} {scope : Scope} {dV kV doc pm cdv ct oc : Value} {an od : Option Addr}
    {osl : Array (Option Value)} {N ps : List Str} {sp : Sp} {p : Addr × Obj} (lk : K.lookup f = some ⟨oc, od, .func (PySem.W.fnOf name qual params body scope dV kV doc pm an cdv ct), osl⟩) (hcd : PySem.W.codeIn K cdv qual = true) (S : FnScope N ps scope)
    (len : ∀ vs H Q E, sp vs H Q E → vs.length = ps.length)
    (hbody : ∀ (A : Around) (outer : List Env) (s : Shared) (H : Hp) (vs : List V) (Q : VK) (E : XK), A.guards = some [] → RoomH k (A.deeper (envOfC qual scope s.heap.objs.size f cdv)) → sp vs H Q E →
      ∃ t, PSs (cxH CX P w K mg base N qual scope f cdv A outer s H E p) body t ∧ t { nx := fun _ H' => Q .non H', rt := Q } (L2.start N vs) H) :
    FnP P w K mg base CX (k + 1) p f (PySem.W.fnOf name qual params body scope dV kV doc pm an cdv ct) ps sp := by
  refine ⟨len, fun A outer s H args us vs Q E hgd hr hpin e0 hb r hsp => ?_⟩
  have hl := len _ _ _ _ hsp
  have KX : K.In s.heap := e0.mod.kin.keeps fun b o e => (e0.bs b o e).1
  have lim : s.heap.NoLimit := e0.mod.nolimit.keeps fun b o e => (e0.bs b o e).1
  have hkind : ∀ y ∈ ps.zip us, scope.names.lookup y.1 = some .local ∨ (scope.names.lookup y.1 = some .cell ∧ ((cellsFrom (s.heap.objs.size + 1) scope.names []).lookup y.1).isSome = true) := fun ⟨n, v⟩ hy => by
    rcases S.par n (List.of_mem_zip hy).1 with q | q
    · exact .inl q
    · exact .inr ⟨q, PySem.W.cellsFrom_some _ _ _ (.inl q)⟩
  refine codeAny_call_function hr.depth (KX _ _ lk) rfl S.co S.gen rfl (PySem.W.codeRec_of KX hcd) (hb _ _ _ _ ?_)
  refine wpAny_newFunctionEnv_cells S.kind hkind fun env he s1 x => ?_
  subst he
  refine ⟨lim.keeps x.toInCall.keep, codeAny_func ?_⟩
  obtain ⟨t, ht, hq⟩ := hbody A outer s H vs Q E hgd (hr.deeper _) hsp
  have I : Inv (cxH CX P w K mg base N qual scope f cdv A outer s H E p) [] (L2.start N vs) H s1 := inv_startH S hpin e0 hl r x
  refine wpAny_mono (ht.run [] s1 (L2.start N vs) H _ I hq) (fun fl s' hs => ?_) fun e s' hs => hs
  have fin : ∀ {σ' : L2.St} {H' : Hp} {v : V} {u : Value}, Inv (cxH CX P w K mg base N qual scope f cdv A outer s H E p) [] σ' H' s' → RelV v u → Q v H' → CE outer P w H s Q u s' :=
    fun {σ' H' v u} J rv q => ⟨v, H', J.os, J.bare, J.base, J.hok, rv, q⟩
  cases fl with
  | ret u =>
    obtain ⟨v, σ', H', J, rv, q⟩ := hs
    exact fin J rv q
  | next =>
    obtain ⟨σ', H', J, q⟩ := hs
    exact fin (v := V.non) (u := Value.none) J rfl q
  | brk =>
    obtain ⟨_, _, _, q⟩ := hs
    exact False.elim q
  | cont =>
    obtain ⟨_, _, _, q⟩ := hs
    exact False.elim q
section
variable {X : Cx} {CX : CXT} {k : Nat} {f C : Addr} {fd : FuncData} {ps : List Str} {sp : Sp} {E : L2.St → XK} {x m : Str} {q pos apos : Pos} {e o : Expr} {es : List Expr} {ta : TE} {t : TA} {p : Addr × Obj}
theorem run_fnP {pins : List (Addr × Obj)} {σ : L2.St} {H : Hp} {s : Shared} {Q : VK} {us : List Value} {vs : List V} (F : FnP X.prog X.w X.K X.mg X.base CX k p f fd ps sp) (hgd : X.A.guards = some []) (hr : RoomH k X.A) (hp : p ∈ X.pn) (hb : Binds X.K fd ps []) (hx : PassesAt CX X σ (E σ))
    (I : Inv X pins σ H s) (r : Vals vs us) (h : sp vs H Q (E σ)) : wpAny (model X.prog X.w) X.A (call (.ref f) us) (EP X pins σ Q) X.xe s := by
  have hl : us.length = ps.length := by rw [← r.length]; exact F.len _ _ _ _ h
  have b := hb s us I.kIn (by rw [List.append_nil]; exact hl)
  rw [List.append_nil] at b
  have P1 := I.pin p (List.mem_append_left _ hp)
  have hpin : PinOk X.stack H s p := ⟨P1.1, P1.2.1, fun hm => (List.mem_cons.mp (I.stkSub p.1 hm)).elim P1.2.2.1 P1.2.2.2.1, P1.2.2.2.2⟩
  refine wpAny_call (codeAny_mono (F.run X.A X.stack s H ⟨us, []⟩ us vs Q (E σ) hgd hr hpin I.env0 b r h) fun r s' hq => ?_)
  cases r with
  | error e => exact hx pins H s e s' I hq
  | ok fl =>
    cases fl with
    | ret u => exact I.after hq
    | next => exact False.elim hq
    | brk => exact False.elim hq
    | cont => exact False.elim hq
theorem pe_callP (F : FnP X.prog X.w X.K X.mg X.base CX k p f fd ps sp) (hgd : X.A.guards = some []) (hr : RoomH k X.A) (hp : p ∈ X.pn) (hg : Gl X x) (hm : X.mg x = some (.ref f)) (hk : PySem.W.keepIn X.K (.ref f) = true) (hb : Binds X.K fd ps []) (hx : ∀ σ, PassesAt CX X σ (E σ))
    (ha : PA X (e :: es) t) (hdb : (x == ("__debug__" : Str)) = false := by decide) (he : starEach (e :: es) X.env = (false, eval e X.env) :: starEach es X.env := by rfl) (hpl : (backTo pos (starEach es X.env)).any (·.1) = false := by rfl) :
    PE X (.Call (.Name x q) (e :: es) [] pos) (tCallS sp E t) := by
  refine ⟨fun pins s σ H Q I h => ?_⟩
  refine wpAny_Call_Name_kw (ld_glob I hg hm ?_ hdb)
  refine PySem.W.callWith_K (h₀ := X.base) I.ok.mod.kin hk (thn (ha.run pos pins s σ H _ I h) fun us s1 ⟨vs, H1, I1, r, q⟩ => ⟨I1.kIn, ?_⟩) he hpl
  exact run_fnP F hgd hr hp hb (hx σ) I1 r q
end
/-! ### isinstance, fields of the error in hand -/
theorem call_isP {X : Cx} {a D : Addr} {oe : Obj} (C : ExcC X.K D) (hz : Zc (.ref D) none oe) (hf : ∃ vs, oe.data = .fields vs) (hp : (a, oe) ∈ X.pn) : CallR X (.builtin "isinstance") (rIsE X.K D a) := by
  intro pins s σ H xs us Q I r h
  obtain ⟨c, cv, b, rfl, hcv, e, q⟩ := h
  cases r with
  | cons rx rr =>
    cases rr with
    | cons rt rr =>
      cases rr
      cases rx
      have ec := hcv _ rt
      subst ec
      obtain ⟨hget, _⟩ := I.pin (a, oe) (List.mem_append.mpr (.inl hp))
      obtain ⟨vs, hv⟩ := hf
      have J : PySem.W.InstAt s.heap a oe D none := by
        obtain ⟨oc, od, oda, osl⟩ := oe
        obtain ⟨h1, h2⟩ := hz
        dsimp only at h1 h2 hv
        subst h1 h2 hv
        exact ⟨hget, rfl, rfl, trivial⟩
      exact PySem.W.kia_one (PySem.W.handS_kitx_exc C.hg C.hk C.hs C.hd C.ha C.hn C.ht C.hm) I.kIn J e (fun z => nomatch z) fun tk => ⟨.bl b, H, I.kept (t' := tk) fun _ _ z => z, rfl, q⟩
theorem pe_xfP {X : Cx} {a C : Addr} {oe : Obj} {cls : Value} {d : Option Addr} {e : Expr} {te : TE} {pos : Pos} {n : Str} (T : XfC X.K C) (hno : PySem.W.findIn X.K (.ref C) n = some none)
    (hz : Zc cls d oe) (hf : ∃ vs, oe.data = .fields vs) (hp : (a, oe) ∈ X.pn) (he : PE X e te) (hb : attributeBase e n X.env (eval e X.env) = eval e X.env := by rfl) :
    PE X (.Attribute e n pos) (tXf a cls d C n te) := by
  refine ⟨fun pins s σ H Q I h => ?_⟩
  refine attr_of hb (thn (he.run pins s σ H _ I h) fun u s1 hh => ?_)
  obtain ⟨x, H1, I1, rx, ex, ec, dd, fs, v, ed, ea, l, q⟩ := hh
  subst ex
  obtain rfl : u = Value.ref a := rx
  subst ec
  subst ed
  obtain ⟨ha, _⟩ := I1.pin (a, oe) (List.mem_append_left _ hp)
  obtain ⟨vs, hd⟩ := hf
  have hx : ObjOk X.prog X.w H1 s1.heap dd (.xd fs) := I1.hok dd _ ea
  obtain ⟨mA, hns, hr⟩ := hx
  obtain ⟨od, ho, hl⟩ := lookIn_ns hns
  obtain ⟨u, hu, ru⟩ := RelO.some_of (v := v) (o := mA n) (by rw [← l]; exact hr n)
  have J : PySem.W.InstAt s1.heap a oe C (some od) := ⟨ha, hz.1, by unfold PySem.W.notCls; rw [hd] <;> rfl, by rw [hz.2]; exact ho⟩
  exact HandSPX.exc_get I1.kIn J T.ga T.gg T.exC (PySem.W.findObj_own T.hdC hno rfl (by rw [hl, hu])) (handed_of ru) ⟨v, H1, I1.tok _, ru, q⟩
end SFT

/-! The error in hand: its class, its fields. -/
namespace SFT
open PySem PySem.Spec PyProof.Rows L2 SF L2H SX
/-- what the error's dict holds -/
def EdOk (H : Hp) (d : Option Addr) (fs : List (Str × V)) : Prop := (d = none ∧ fs = []) ∨ ∃ dd, d = some dd ∧ H dd = some (.xd fs)
theorem EdOk.same {H H' : Hp} {d : Option Addr} {fs : List (Str × V)} (h : EdOk H d fs) (s : ∀ b o, H b = some o → H' b = some o) : EdOk H' d fs := by
  rcases h with h | ⟨dd, e, h⟩
  · exact .inl h
  · exact .inr ⟨dd, e, s _ _ h⟩
section
variable {X : Cx} {a D : Addr} {oe : Obj} {d : Option Addr} {cls : Value}
theorem ed_inst {pins : List (Addr × Obj)} {σ : L2.St} {H : Hp} {s : Shared} {fs : List (Str × V)} (I : Inv X pins σ H s) (hz : Zc (.ref D) d oe) (hf : ∃ vs, oe.data = .fields vs) (hp : (a, oe) ∈ X.pn) (h : EdOk H d fs) :
    ∃ od : Option Obj, PySem.W.InstAt s.heap a oe D od ∧ ∀ f v, fs.lookup f = some v → ∃ o u, od = some o ∧ PySem.W.lookIn f o = some (some u) ∧ RelV v u := by
  obtain ⟨hget, _⟩ := I.pin (a, oe) (List.mem_append.mpr (.inl hp))
  obtain ⟨vs, hv⟩ := hf
  rcases h with ⟨rfl, rfl⟩ | ⟨dd, rfl, h⟩
  · refine ⟨none, ⟨hget, hz.1, by unfold PySem.W.notCls; rw [hv] <;> rfl, by rw [hz.2]; trivial⟩, fun f v e => by cases e⟩
  · obtain ⟨mA, hns, hr⟩ := (show ObjOk X.prog X.w H s.heap dd (.xd fs) from I.hok dd _ h)
    obtain ⟨od, ho, hl⟩ := lookIn_ns hns
    refine ⟨some od, ⟨hget, hz.1, by unfold PySem.W.notCls; rw [hv] <;> rfl, by rw [hz.2]; exact ho⟩, fun f v e => ?_⟩
    obtain ⟨u, hu, ru⟩ := RelO.some_of (v := v) (o := mA f) (by rw [← e]; exact hr f)
    exact ⟨od, u, rfl, by rw [hl, hu], ru⟩
/-- isinstance(e, C) -/
def rIsP (K : PySem.W.Frag) (a D : Addr) (d : Option Addr) : List V → Hp → VK → Prop := fun xs H Q => ∃ (c : V) (u : Value) (b : Bool) (fs : List (Str × V)), xs = [.ref a, c] ∧ ClsV c u ∧ EdOk H d fs ∧ PySem.W.kitOne K (.ref D) u = some b ∧ Q (.bl b) H
theorem call_isP2 (C : ExcC X.K D) (hz : Zc (.ref D) d oe) (hf : ∃ vs, oe.data = .fields vs) (hp : (a, oe) ∈ X.pn) : CallR X (.builtin "isinstance") (rIsP X.K a D d) := by
  intro pins s σ H xs us Q I r h
  obtain ⟨c, u, b, fs, rfl, k, ed, e, q⟩ := h
  obtain ⟨u1, u2, rfl, r1, r2⟩ := vals2 r
  have e2 := k.eq r2
  subst e2
  cases (show u1 = Value.ref a from r1)
  obtain ⟨od, J, _⟩ := ed_inst I hz hf hp ed
  exact PySem.W.kia_one (kit_exc C) I.kIn J e (fun z => nomatch z) fun tk => ⟨.bl b, H, I.tok tk, rfl, q⟩
/-- e.f -/
def tFldP (a : Addr) (d : Option Addr) (f : Str) (te : TE) : TE := fun σ H Q => te σ H fun x H1 => ∃ (fs : List (Str × V)) (v : V), x = .ref a ∧ EdOk H1 d fs ∧ fs.lookup f = some v ∧ Q v H1
theorem pe_fldP {e : Expr} {te : TE} {pos : Pos} {n : Str} (T : XfC X.K D) (hno : PySem.W.findIn X.K (.ref D) n = some none) (hz : Zc (.ref D) d oe) (hf : ∃ vs, oe.data = .fields vs) (hp : (a, oe) ∈ X.pn) (he : PE X e te) (hb : attributeBase e n X.env (eval e X.env) = eval e X.env := by rfl) :
    PE X (.Attribute e n pos) (tFldP a d n te) := by
  refine ⟨fun pins s σ H Q I h => ?_⟩
  refine attr_of hb (thn (he.run pins s σ H _ I h) fun u s1 hh => ?_)
  obtain ⟨x, H1, I1, rx, fs, v, rfl, ed, l, q⟩ := hh
  obtain rfl : u = Value.ref a := rx
  obtain ⟨od, J, hl⟩ := ed_inst I1 hz hf hp ed
  obtain ⟨o, u, rfl, hu, ru⟩ := hl n v l
  exact HandSPX.exc_get I1.kIn J T.ga T.gg T.exC (PySem.W.findObj_own T.hdC hno rfl hu) (handed_of ru) ⟨v, H1, I1.tok _, ru, q⟩
theorem call_reprH {k : Nat} (hg : X.A.guards = some []) (hr : RoomH k X.A) : CallR X (.builtin "repr") rReprS := by
  intro pins s σ H xs us Q I r h
  obtain ⟨a, d, rfl, hd, h1, h2, h3, q⟩ := h
  obtain ⟨u, rfl, ru⟩ := r.one
  cases (show u = Value.ref a from ru)
  obtain ⟨as, R, hm⟩ := Sd.reads I.hok hd (u := .ref a) rfl
  refine repr_of_reads' R h1 (fun _ => hm) hg (by have := hr.un; omega) (fun _ _ e => e) (fun h' u tk hk => ?_) h3
  exact ⟨.str _, H, I.kept hk, ⟨u, rfl⟩, q⟩
end
/-! ### a def of the text -/
section
variable {P : Program} {w : World} {K : PySem.W.Frag} {mg : Str → Option Value} {base : Heap}
theorem Fun.okP {x qual : Str} {st : Stmt} {f : Addr} {fd : FuncData} {N ps : List Str} {k : Nat} {sp : Sp} {p : Addr × Obj} (F : Fun K x qual st f fd) (S : FnScope N ps (defScope st)) (len : ∀ vs H Q E, sp vs H Q E → vs.length = ps.length)
    (hbody : ∀ (cdv : Value) (A : Around) (outer : List Env) (s : Shared) (H : Hp) (vs : List V) (Q : VK) (E : XK), A.guards = some [] → RoomH k (A.deeper (envOfC qual (defScope st) s.heap.objs.size f cdv)) → sp vs H Q E →
      ∃ t, PSs (cxH CX0 P w K mg base N qual (defScope st) f cdv A outer s H E p).nox (defBody st) t ∧ t { nx := fun _ H' => Q .non H', rt := Q } (start N vs) H) : FnP P w K mg base CX0 (k + 1) p f fd ps sp := by
  obtain ⟨oc, od, kV, doc, pm, an, cdv, ct, osl, rfl, lk, hcd⟩ := F.ex
  refine fn_ofP lk hcd S len fun A outer s H vs Q E hgd hr hsp => ?_
  obtain ⟨t, h, q⟩ := hbody cdv A outer s H vs Q E hgd hr hsp
  exact ⟨t, h.nox, q⟩
end
theorem passA {X : Cx} {σ : L2.St} : PassesAt CX0 X σ E0 := fun _ _ _ _ _ _ h => h.elim
/-! ### the twelve classes of errors -/
def cnms : List Str := ["InvalidNumber", "InvalidText", "InvalidCount", "InvalidName", "InvalidTruth", "InvalidEntries", "NotAFormula", "TextError", "UnknownName", "Clash", "DividedByZero", "TooLarge"]
def cnm (i : Nat) : Str := cnms.getD i ""
def cbns : List Str := ["GivenError", "NameProblem", "AnswerError"]
/-- the field that is asked of an error -/
def cfl (i : Nat) : Str := if i = 7 then "place" else if i = 11 then "limit" else "given"
def cfs : List Str := ["given", "place", "limit"]
structure CErr (K : PySem.W.Frag) (mg : Str → Option Value) (cs bs : Nat → Addr) : Prop where
  g : ∀ i, i < 12 → mg (cnm i) = some (.ref (cs i))
  gb : ∀ j, j < 3 → mg (cbns.getD j "") = some (.ref (bs j))
  ex : ∀ i, i < 12 → ExcC K (cs i)
  xf : ∀ i, i < 12 → XfC K (cs i)
  no : ∀ i, i < 12 → ∀ f ∈ cfs, PySem.W.findIn K (.ref (cs i)) f = some none
  kit : ∀ i j, i < 12 → j < 12 → PySem.W.kitOne K (.ref (cs i)) (.ref (cs j)) = some (decide (i = j))
  cat : ∀ i, i < 12 → PySem.W.exmAny K (.ref (cs i)) [.ref (bs 0), .ref (bs 1), .ref (bs 2)] = some true
  isi : mg "isinstance" = none
  rep : mg "repr" = none
/-- what a caught error is shown by -/
def given (i : Nat) (fs : List (Str × V)) : Option (List V) := if i = 10 then some [] else (fs.lookup (cfl i)).map fun v => [v]
end SFT
namespace SFT
open PySem PySem.Spec PyProof.Rows L2 SF L2H SX
/-- what is shown, behind its word -/
def tShow (told : Str) (R : List V → Hp → VK → Prop) (Q : VK) (v : V) (H : Hp) : Prop := R [v] H (fun z H1 => ∃ s, z = .str s ∧ ∀ L H2, (∀ b o, H1 b = some o → H2 b = some o) → H1 L = none → H2 L = some (.lst [.str told, .str s]) → Q (.ref L) H2)
/-- the error's wish -/
def XKc (cs : Nat → Addr) (R : List V → Hp → VK → Prop) (Q : VK) : XK := fun cls d H1 => ∃ (i : Nat) (fs : List (Str × V)) (ys : List V), i < 12 ∧ cls = .ref (cs i) ∧ EdOk H1 d fs ∧ given i fs = some ys ∧ ∀ p H2, (∀ b o, H1 b = some o → H2 b = some o) → H2 p = some (.tup ys) → tShow (cnm i) R Q (.ref p) H2
/-- told, or the error that was caught -/
def TTc (cs : Nat → Addr) (RV RP : List V → Hp → VK → Prop) : (XK → Hp → VK → Prop) → Hp → VK → Prop := fun tl H Q => ∀ Q0 : VK, (∀ v H1, tShow "told" RV Q v H1 → Q0 v H1) → tl (XKc cs RP Q) H Q0
def Mono (R : List V → Hp → VK → Prop) : Prop := ∀ (xs : List V) (H : Hp) (Q Q' : VK), (∀ v H', Q v H' → Q' v H') → R xs H Q → R xs H Q'
theorem FnP.mono {P : Program} {w : World} {K : PySem.W.Frag} {mg : Str → Option Value} {base : Heap} {CX : CXT} {k k' : Nat} {p : Addr × Obj} {f : Addr} {fd : FuncData} {ps : List Str} {sp : Sp} (F : FnP P w K mg base CX k p f fd ps sp) (h : k ≤ k') : FnP P w K mg base CX k' p f fd ps sp :=
  ⟨F.len, fun A outer s H args us vs Q E hg hr => F.run A outer s H args us vs Q E hg (hr.mono h)⟩
theorem mono_reprS : Mono rReprS := fun xs H Q Q' h ⟨a, d, e, h1, h2, h3, h4, q⟩ => ⟨a, d, e, h1, h2, h3, h4, h _ _ q⟩
theorem pss_of {X : Cx} {st : List Stmt} {t' : TS} (h : ∀ pins s σ H D, Inv X pins σ H s → t' D σ H → ∃ t, PSs X st t ∧ t D σ H) : PSs X st t' := ⟨fun pins s σ H D I x => let ⟨_, p, y⟩ := h pins s σ H D I x; p.run pins s σ H D I y⟩
theorem len4 {α : Type} {σ : List α} (h : σ.length = 4) : ∃ a b c d, σ = [a, b, c, d] := by
  match σ, h with
  | [a, b, c, d], _ => exact ⟨a, b, c, d, rfl⟩
end SFT
namespace SFT
open PySem PySem.Spec PyProof.Rows L2
/-- the twelve classes of errors, their three bases: one truth value over the written part -/
def exB1 (K : PySem.W.Frag) (D : Addr) : Bool := decide (PySem.W.findIn K (.ref D) "__getattribute__" = some (some (.builtin "BaseException.__getattribute__"))) && (decide (PySem.W.findIn K (.ref D) "__getattr__" = some none) && (decide (PySem.W.subIn K (.ref D) (.type "BaseException") = some true) && (PySem.W.hasDictIn K D &&
  (decide (PySem.W.findIn K (.ref D) "__class__" = some (some (.builtin "object.__class__"))) && (decide (PySem.W.specialIn K (.builtin "object.__class__") "__get__" = some (some (.builtin "getset_descriptor.__get__"))) && (decide (PySem.W.takesIn K (.builtin "object.__class__") = some true) && decide (PySem.W.mroIn K D (.type "object") = some true)))))))
theorem exB1_ok {K : PySem.W.Frag} {D : Addr} (h : exB1 K D = true) : ExcC K D ∧ XfC K D := by
  unfold exB1 at h
  simp only [Bool.and_eq_true, decide_eq_true_eq] at h
  obtain ⟨h1, h2, h3, h4, h5, h6, h7, h8⟩ := h
  exact ⟨⟨h1, h2, h3, h4, h5, h6, h7, h8⟩, ⟨h1, h2, h3, h4⟩⟩
def upB (n : Nat) (p : Nat → Bool) : Bool := (List.range n).all p
theorem upB_ok {n : Nat} {p : Nat → Bool} (h : upB n p = true) : ∀ i, i < n → p i = true := fun i hi => List.all_eq_true.mp h i (List.mem_range.mpr hi)
def cerrB (K : PySem.W.Frag) (cs bs : List Addr) : Bool :=
  upB 12 (fun i => exB1 K (cs.getD i 0)) && (upB 12 (fun i => cfs.all fun f => decide (PySem.W.findIn K (.ref (cs.getD i 0)) f = some none)) && (upB 12 (fun i => upB 12 fun j => decide (PySem.W.kitOne K (.ref (cs.getD i 0)) (.ref (cs.getD j 0)) = some (decide (i = j)))) &&
    upB 12 (fun i => decide (PySem.W.exmAny K (.ref (cs.getD i 0)) [.ref (bs.getD 0 0), .ref (bs.getD 1 0), .ref (bs.getD 2 0)] = some true))))
theorem cerrB_ok {K : PySem.W.Frag} {mg : Str → Option Value} {cs bs : List Addr} (h : cerrB K cs bs = true) (g : ∀ i, i < 12 → mg (cnm i) = some (.ref (cs.getD i 0))) (gb : ∀ j, j < 3 → mg (cbns.getD j "") = some (.ref (bs.getD j 0))) (hi : mg "isinstance" = none) (hr : mg "repr" = none) :
    CErr K mg (fun i => cs.getD i 0) (fun j => bs.getD j 0) := by
  obtain ⟨h1, h⟩ := Bool.and_eq_true_iff.mp h
  obtain ⟨h2, h⟩ := Bool.and_eq_true_iff.mp h
  obtain ⟨h3, h4⟩ := Bool.and_eq_true_iff.mp h
  exact { g := g, gb := gb, ex := fun i hi => (exB1_ok (upB_ok h1 i hi)).1, xf := fun i hi => (exB1_ok (upB_ok h1 i hi)).2, no := fun i hi f hf => of_decide_eq_true (List.all_eq_true.mp (upB_ok h2 i hi) f hf), kit := fun i j hi hj => of_decide_eq_true (upB_ok (upB_ok h3 i hi) j hj), cat := fun i hi => of_decide_eq_true (upB_ok h4 i hi), isi := hi, rep := hr }
end SFT

/-! Defs that let an own error out: the error as an expression's only end. -/
namespace SQ
open PySem PySem.Spec PyProof.Rows L2 SF
section
variable {P : Program} {w : World} {K : PySem.W.Frag} {mg : Str → Option Value} {base : Heap}
theorem Fun.okX {CX : CXT} {x qual : Str} {st : Stmt} {f : Addr} {fd : FuncData} {N ps : List Str} {k : Nat} {sp : Sp} (F : Fun K x qual st f fd) (S : FnScope N ps (defScope st)) (len : ∀ vs H Q E, sp vs H Q E → vs.length = ps.length)
    (hbody : ∀ (cdv : Value) (A : Around) (outer : List PySem.Env) (s : Shared) (H : Hp) (vs : List V) (Q : VK) (E : XK), Room k (A.deeper (envOfC qual (defScope st) s.heap.objs.size f cdv)) → sp vs H Q E →
      ∃ t, PSs (cxOf CX P w K mg base N qual (defScope st) f cdv A outer s H E) (defBody st) t ∧ t { nx := fun _ H' => Q .non H', rt := Q } (start N vs) H) : FnOk P w K mg base CX (k + 1) f fd ps sp := by
  obtain ⟨oc, od, kV, doc, pm, an, cdv, ct, osl, rfl, lk, hcd⟩ := F.ex
  exact fn_of lk hcd S len fun A outer s H vs Q E hr hsp => hbody cdv A outer s H vs Q E hr hsp
end
section
variable {X : Cx} {C : Addr} {bmB : List Value} {B newId initId : String}
/-- X() -/
theorem pmk_own0 {x : Str} {p pos : Pos} (F : ExcBaseFacts B newId initId bmB) (q : PySem.W.excIn X.K C bmB newId = true) (gC : X.mg x = some (.ref C)) (kC : PySem.W.keepIn X.K (.ref C) = true) (r : Raises X (.ref C)) (hg : Gl X x)
    (hdb : (x == ("__debug__" : Str)) = false := by decide) : PMk X (.Call (.Name x p) [] [] pos) (fun _ H Q => Q (.ref C) none H) := by
  intro pins s σ H Q I h
  refine wpAny_Call_Name_kw (ld_glob I hg gC ?_ hdb)
  refine PySem.W.callWith_K0 I.kIn kC ?_
  show wpAny _ _ (call (.ref C) []) _ _ _
  obtain ⟨bm, N, nm, qn, bs, hdct, sn, sub, ab, col, dd, k0, k1, k2, k3, k5, mN, hC, hN, hni, T⟩ := exc_obj I.kIn q
  refine wpAny_call_exc_subT F T hC hN hni (fun h' e hm => ?_) (by show 0 ≤ sizeLine; exact Nat.zero_le _)
  exact mk_of I hm r h (I.hok.gone hm.new)
end
/-- e lets the error of the class at D out -/
def TZ (E : XK) (D : Addr) (G : L2.St → Hp → Prop) (s : Prop) : TE := fun σ H _ => G σ H ∧ s ∧ ∀ H', Same H H' → E (.ref D) none H'
def spZI (D : Addr) : Sp := fun vs H _ E => ∃ (p : Addr) (t : Int), vs = [.ref p, .int t, .int 0] ∧ ∀ H', Same H H' → E (.ref D) none H'
def spZ1 (C D : Addr) : Sp := fun vs H _ E => ∃ a n, vs = [.ref a] ∧ RQ C H a n 0 ∧ n ≤ LIM ∧ ∀ H', Same H H' → E (.ref D) none H'
def spZ2 (C D : Addr) : Sp := fun vs H _ E => ∃ a b n m q, vs = [.ref a, .ref b] ∧ RQ C H a n q ∧ RQ C H b m 0 ∧ n ≤ LIM ∧ m ≤ LIM ∧ ∀ H', Same H H' → E (.ref D) none H'
/-- a fraction, and the number 0 -/
def spZM (C D : Addr) : Sp := fun vs H _ E => ∃ a k v n m q, vs = [.ref a, v] ∧ RQ C H a n q ∧ NV C H k v m 0 ∧ n ≤ LIM ∧ m ≤ LIM ∧ ∀ H', Same H H' → E (.ref D) none H'
/-- the fraction 0, and a number -/
def spZR (C D : Addr) : Sp := fun vs H _ E => ∃ a k v n m q, vs = [.ref a, v] ∧ RQ C H a n 0 ∧ NV C H k v m q ∧ n ≤ LIM ∧ m ≤ LIM ∧ ∀ H', Same H H' → E (.ref D) none H'
def spZP (C D : Addr) : Sp := fun vs H _ E => ∃ a n e, vs = [.ref a, .int e] ∧ RQ C H a n 0 ∧ -20 ≤ e ∧ e < 0 ∧ n ≤ LIM ∧ ∀ H', Same H H' → E (.ref D) none H'
section
variable {X : Cx} {C D : Addr} {E : XK} {CX : CXT} {G : L2.St → Hp → Prop} {a b e : Expr} {k k1 k2 : Bool} {n m : Nat} {q r : Rat} {s s1 s2 : Prop} {pos p1 p2 : Pos} {l : Nat} {x : Str} {ps : List Str} {fd : FuncData} {f : Addr}
/-- the second argument fails -/
theorem pz_call2 {side : Rat → Rat → Prop} {fn : Rat → Rat → Rat} {g : Nat → Nat → Nat} (F : FnOk X.prog X.w X.K X.mg X.base CX0 l f fd ps (sp2 C side fn g)) (hr : Room l X.A) (hg : Gl X x) (hm : X.mg x = some (.ref f)) (hk : PySem.W.keepIn X.K (.ref f) = true) (hb : Binds X.K fd ps []) (hG : GS G)
    (ha : PE X a (TQ C G k n q s1)) (hb' : PE X b (TZ E D G s2)) (hdb : (x == ("__debug__" : Str)) = false := by decide)
    (he : starEach (a :: [b]) X.env = (false, eval a X.env) :: starEach [b] X.env := by rfl) (he2 : starEach (b :: []) X.env = (false, eval b X.env) :: starEach [] X.env := by rfl) (hpl : (backTo pos (starEach [b] X.env)).any (·.1) = false := by rfl) :
    PE X (.Call (.Name x p1) [a, b] [] pos) (TZ E D G (s1 ∧ s2)) :=
  pe_weak (pe_call (E := E0) F hr hg hm hk hb .nil pass0 (pa_cons ha (pa_cons hb' pa_nil he2) he) hdb he hpl) fun σ H Q ⟨hg, ⟨h1, h2⟩, z⟩ => ⟨hg, h1, fun v H1 S1 nv => ⟨hG _ _ _ hg S1, h2, fun H2 S2 => z H2 (S1.trans S2)⟩⟩
theorem pz_un (ha : PE X a (TZ E D G s1)) : PE X (.UnaryOp .USub a pos) (TZ E D G s1) := pe_weak (pe_un un_neg ha) fun σ H Q h => h
theorem pz_callZ1 (F : FnOk X.prog X.w X.K X.mg X.base CX l f fd ps (spZ1 C D)) (hx : Passes CX X E) (hr : Room l X.A) (hg : Gl X x) (hm : X.mg x = some (.ref f)) (hk : PySem.W.keepIn X.K (.ref f) = true) (hb : Binds X.K fd ps [])
    (ha : PE X a (TQ C G true n 0 s1)) (hdb : (x == ("__debug__" : Str)) = false := by decide)
    (he : starEach (a :: []) X.env = (false, eval a X.env) :: starEach [] X.env := by rfl) (hpl : (backTo pos (starEach [] X.env)).any (·.1) = false := by rfl) : PE X (.Call (.Name x p1) [a] [] pos) (TZ E D G (s1 ∧ n ≤ LIM)) :=
  pe_weak (pe_call (E := E) F hr hg hm hk hb .nil hx (pa_cons ha pa_nil he) hdb he hpl) fun σ H Q ⟨hg, ⟨h1, h2⟩, z⟩ => ⟨hg, h1, fun v H1 S1 nv => by
    obtain ⟨a, rfl, y⟩ := nv_true nv
    exact ⟨a, n, rfl, y, h2, fun H2 S2 => z H2 (S1.trans S2)⟩⟩
theorem pz_callZ2 (F : FnOk X.prog X.w X.K X.mg X.base CX l f fd ps (spZ2 C D)) (hx : Passes CX X E) (hr : Room l X.A) (hg : Gl X x) (hm : X.mg x = some (.ref f)) (hk : PySem.W.keepIn X.K (.ref f) = true) (hb : Binds X.K fd ps []) (hG : GS G)
    (ha : PE X a (TQ C G true n q s1)) (hb' : PE X b (TQ C G true m 0 s2)) (hdb : (x == ("__debug__" : Str)) = false := by decide)
    (he : starEach (a :: [b]) X.env = (false, eval a X.env) :: starEach [b] X.env := by rfl) (he2 : starEach (b :: []) X.env = (false, eval b X.env) :: starEach [] X.env := by rfl) (hpl : (backTo pos (starEach [b] X.env)).any (·.1) = false := by rfl) :
    PE X (.Call (.Name x p1) [a, b] [] pos) (TZ E D G (s1 ∧ s2 ∧ n ≤ LIM ∧ m ≤ LIM)) :=
  pe_weak (pe_call (E := E) F hr hg hm hk hb .nil hx (pa_cons ha (pa_cons hb' pa_nil he2) he) hdb he hpl) fun σ H Q ⟨hg, ⟨h1, h2, h3, h4⟩, z⟩ => ⟨hg, h1, fun v H1 S1 nv => ⟨hG _ _ _ hg S1, h2, fun u H2 S2 nu => by
    obtain ⟨a, rfl, y⟩ := nv_true nv
    obtain ⟨b, rfl, y'⟩ := nv_true nu
    exact ⟨a, b, n, m, q, rfl, y.same S2, y', h3, h4, fun H3 S3 => z H3 ((S1.trans S2).trans S3)⟩⟩⟩
/-- Ratio(e, 0) -/
theorem pz_make {i : Int} (M : Mk X.K C f) (F : FnOk X.prog X.w X.K X.mg X.base CX l f fd ["self", "top", "bottom"] (spZI D)) (hx : Passes CX X E) (hb : Binds X.K fd ["self", "top", "bottom"] []) (hr : Room (l + 1) X.A) (hg : Gl X x) (hm : X.mg x = some (.ref C)) (hG : GS G)
    (ha : PE X a (TI G i s1)) (hb' : PE X b (TI G 0 s2)) (hdb : (x == ("__debug__" : Str)) = false := by decide)
    (he : starEach (a :: [b]) X.env = (false, eval a X.env) :: starEach [b] X.env := by rfl) (he2 : starEach (b :: []) X.env = (false, eval b X.env) :: starEach [] X.env := by rfl) (hpl : (backTo pos (starEach [b] X.env)).any (·.1) = false := by rfl) :
    PE X (.Call (.Name x p1) [a, b] [] pos) (TZ E D G (s1 ∧ s2)) :=
  pe_weak (pe_make (E := E) M F hr hg hm hb .nil hx (pa_cons ha (pa_cons hb' pa_nil he2) he) hdb he hpl) fun σ H Q ⟨hg, ⟨h1, h2⟩, z⟩ =>
    ⟨hg, h1, fun H1 S1 => ⟨hG _ _ _ hg S1, h2, fun H2 S2 x dx hx hd hn => ⟨x, i, rfl, fun H3 S3 => z H3 (((S1.trans S2).trans (same_new (same_new (Same.refl _) hd) (by rw [upd_ne (Ne.symm hn)]; exact hx))).trans S3)⟩⟩⟩
/-- return e, x = e -/
theorem qz_ret {σ : L2.St} {H : Hp} {Dn : Ends} (hg : G σ H) (hs : s) (z : ∀ H', Same H H' → E (.ref D) none H') : tRet (TZ E D G s) Dn σ H := ⟨hg, hs, z⟩
end
end SQ
namespace SQ
open PySem PySem.Spec PyProof.Rows L2 SF
/-- the class DividedByZero at D -/
structure DZ (K : PySem.W.Frag) (mg : Str → Option Value) (D : Addr) : Prop where
  g : mg "DividedByZero" = some (.ref D)
  q : PySem.W.excIn K D [.type "ArithmeticError", .type "Exception", .type "BaseException", .type "object"] "ArithmeticError.__new__" = true
  k : PySem.W.keepIn K (.ref D) = true
  b : PySem.W.subIn K (.ref D) (.type "BaseException") = some true
  t : PySem.W.typeIn K (.ref D) = some (.type "type")
theorem ps_dz {X : Cx} {D : Addr} {W : WX} {p pos rpos : Pos} (Z : DZ X.K X.mg D) (hc : X.calm = true) (tk : Takes X W) (hg : Gl X "DividedByZero") : PS X (.Raise (some (.Call (.Name "DividedByZero" p) [] [] pos)) none rpos) (fun _ σ H => W (.ref D) none σ H) :=
  ps_raise hc tk (pmk_own0 PySem.F.excBase_ArithmeticError Z.q Z.g Z.k (raises_own Z.b Z.t) hg)
end SQ
namespace SQ
open PySem PySem.Spec PyProof.Rows L2 SF
def dzB (K : PySem.W.Frag) (D : Addr) : Bool := PySem.W.excIn K D [.type "ArithmeticError", .type "Exception", .type "BaseException", .type "object"] "ArithmeticError.__new__" && (PySem.W.keepIn K (.ref D) && (decide (PySem.W.subIn K (.ref D) (.type "BaseException") = some true) && decide (PySem.W.typeIn K (.ref D) = some (.type "type"))))
theorem dzB_ok {K : PySem.W.Frag} {mg : Str → Option Value} {D : Addr} (h : dzB K D = true) (g : mg "DividedByZero" = some (.ref D)) : DZ K mg D := by
  obtain ⟨h1, h⟩ := Bool.and_eq_true_iff.mp h
  obtain ⟨h2, h⟩ := Bool.and_eq_true_iff.mp h
  obtain ⟨h3, h4⟩ := Bool.and_eq_true_iff.mp h
  exact ⟨g, h1, h2, of_decide_eq_true h3, of_decide_eq_true h4⟩
def ndB (K : PySem.W.Frag) : Bool := PySem.W.nsOkIn K cStatics && decide (PySem.W.nsIn K cStatics "sys.int_max_str_digits" = some none)
end SQ

/-! Texts of ints of up to 4300 digits. -/
namespace SQ
open PySem PySem.Spec PyProof.Rows L2 SF
structure ND (K : PySem.W.Frag) : Prop where
  o : PySem.W.nsOkIn K cStatics = true
  n : PySem.W.nsIn K cStatics "sys.int_max_str_digits" = some none
theorem ND.noDigits {K : PySem.W.Frag} {h : Heap} (N : ND K) (X : K.In h) : h.NoDigits := ⟨_, .of_isNs (PySem.W.isNs_of_in X N.o), PySem.W.nsMap_none_of_in X N.o N.n⟩
theorem p4300 : 2 ^ LIM ≤ 10 ^ 4300 := by decide +kernel
theorem big43 {i : Int} {n : Nat} (h : i.natAbs < 2 ^ n) (hn : n ≤ LIM) : i.natAbs < 10 ^ 4300 := Nat.lt_of_lt_of_le h (Nat.le_trans (two_le hn) p4300)
section
variable {X : Cx}
def tFmtB (te : TE) : TE := fun σ H Q => te σ H fun x H1 => ∃ i : Int, x = .int i ∧ i.natAbs < 10 ^ 4300 ∧ Q (.str (toString i)) H1
/-- {x}: an int of up to 4300 digits -/
theorem pe_fmtB {e : Expr} {te : TE} {pos : Pos} (N : ND X.K) (hc : X.calm = true) (he : PE X e te) : PE X (.FormattedValue e (-1) none pos) (tFmtB te) := by
  refine ⟨fun pins s σ H Q I h => ?_⟩
  refine wpAny_FormattedValue_plain (thn (he.run pins s σ H _ I h) fun v s1 hv => ?_)
  obtain ⟨x, H1, I1, r1, i, rfl, hz, q⟩ := hv
  obtain ⟨t, rfl⟩ := r1
  refine PyProof.Rows.formatField_int (I1.ok.hd hc) (N.noDigits I1.kIn) (fun _ => ⟨.str (toString i), H1, I1.tok _, ⟨_, rfl⟩, q⟩) (fun hge => ?_)
  generalize 10 ^ 4300 = z at hz hge
  omega
/-- str(x) -/
theorem call_strB (N : ND X.K) (hc : X.calm = true) : CallR X (.type "str") (fun xs H Q => ∃ i, xs = [.int i] ∧ i.natAbs < 10 ^ 4300 ∧ Q (.str (toString i)) H) := by
  intro pins s σ H xs us Q I r h
  obtain ⟨i, rfl, hz, q⟩ := h
  obtain ⟨u, rfl, t, rfl⟩ := vals1 r
  refine PyProof.Rows.str_of_int_or (I.ok.hd hc) (N.noDigits I.kIn) (fun _ => ⟨.str (toString i), H, I.tok _, ⟨_, rfl⟩, q⟩) (fun hge => ?_)
  generalize 10 ^ 4300 = z at hz hge
  omega
end
def spStrB (C : Addr) : Sp := fun vs H Q _ => ∃ a n q, vs = [.ref a] ∧ RQ C H a n q ∧ n ≤ LIM ∧ Q (.str (rstr q)) H
def spReprB (C : Addr) : Sp := fun vs H Q _ => ∃ a n q, vs = [.ref a] ∧ RQ C H a n q ∧ n ≤ LIM ∧ Q (.str (rrepr q)) H
theorem tx_lenB {i : Int} {n : Nat} (h : i.natAbs < 2 ^ n) (hn : n ≤ LIM) : (Str.ofString (toString i)).length ≤ LIM + 1 := by
  have e := int_text_length_le (k := LIM) (a := i) (by decide) (PySem.Flt.log2_lt_of (k := LIM) (by decide) (Nat.lt_of_lt_of_le h (two_le hn)))
  rw [PySem.ofString_length]
  omega
section
variable {X : Cx} {C : Addr} {G : L2.St → Hp → Prop} {a b e : Expr} {k k1 k2 : Bool} {l n m : Nat} {q r : Rat} {s s1 s2 : Prop} {pos p1 p2 : Pos} {ps : List Str}
theorem pS_strB {x : Str} (D : Df X.prog X.w X.K X.mg X.base l ps (spStrB C)) (hs : Has X.K C "__str__" D.f) (hr : Room (l + 2) X.A)
    (hg : Gl X x) (hm : X.mg x = none) (hv : bootBuiltins x = some (.type "str")) (ha : PE X a (TQ C G true n q s)) (hn : x ≠ "__name__" := by decide) (hdb : (x == ("__debug__" : Str)) = false := by decide)
    (he : starEach (a :: []) X.env = (false, eval a X.env) :: starEach [] X.env := by rfl) (hpl : (backTo pos (starEach [] X.env)).any (·.1) = false := by rfl) : PE X (.Call (.Name x p1) [a] [] pos) (TS G (rstr q) (s ∧ n ≤ LIM)) :=
  pe_weak (pe_callTy (call_strOwn (E := E0) hs.h hs.i D.G D.b hr pass0) hg hm hv (pa_cons ha pa_nil he) hn hdb he hpl) fun σ H Q ⟨hg, ⟨h1, h2⟩, z⟩ =>
    ⟨hg, h1, fun v H1 S1 nv => by
      obtain ⟨a, rfl, y'⟩ := nv_true nv
      obtain ⟨⟨dx, e⟩, _⟩ := id y'
      exact ⟨a, dx, _, rfl, e, a, n, q, rfl, y', h2, _, rfl, z H1 S1⟩⟩
theorem pS_reprB {x : Str} (D : Df X.prog X.w X.K X.mg X.base l ps (spReprB C)) (hs : Has X.K C "__repr__" D.f) (hr : Room (l + 1) X.A)
    (hg : Gl X x) (hm : X.mg x = none) (hv : bootBuiltins x = some (.builtin "repr")) (ha : PE X a (TQ C G true n q s)) (hn : x ≠ "__name__" := by decide) (hdb : (x == ("__debug__" : Str)) = false := by decide)
    (he : starEach (a :: []) X.env = (false, eval a X.env) :: starEach [] X.env := by rfl) (hpl : (backTo pos (starEach [] X.env)).any (·.1) = false := by rfl) : PE X (.Call (.Name x p1) [a] [] pos) (TS G (rrepr q) (s ∧ n ≤ LIM)) :=
  pe_weak (pe_callB (call_reprOwn (E := E0) hs.h hs.i D.G D.b hr pass0) hg hm hv (pa_cons ha pa_nil he) hn hdb he hpl) fun σ H Q ⟨hg, ⟨h1, h2⟩, z⟩ =>
    ⟨hg, h1, fun v H1 S1 nv => by
      obtain ⟨a, rfl, y'⟩ := nv_true nv
      obtain ⟨⟨dx, e⟩, _⟩ := id y'
      exact ⟨a, dx, _, rfl, e, a, n, q, rfl, y', h2, _, rfl, z H1 S1⟩⟩
theorem pS_strI {x : Str} {i : Int} (N : ND X.K) (hc : X.calm = true) (hg : Gl X x) (hm : X.mg x = none) (hv : bootBuiltins x = some (.type "str")) (ha : PE X a (TI G i s)) (hn : x ≠ "__name__" := by decide) (hdb : (x == ("__debug__" : Str)) = false := by decide)
    (he : starEach (a :: []) X.env = (false, eval a X.env) :: starEach [] X.env := by rfl) (hpl : (backTo pos (starEach [] X.env)).any (·.1) = false := by rfl) : PE X (.Call (.Name x p1) [a] [] pos) (TS G (tx i) (s ∧ i.natAbs < 10 ^ 4300)) :=
  pe_weak (pe_callTy (call_strB N hc) hg hm hv (pa_cons ha pa_nil he) hn hdb he hpl) fun σ H Q ⟨hg, ⟨h1, h2⟩, z⟩ => ⟨hg, h1, fun H1 S1 => ⟨i, rfl, h2, z H1 S1⟩⟩
end
end SQ
namespace SQ
open PySem PySem.Spec PyProof.Rows L2 SF
theorem ndB_ok {K : PySem.W.Frag} (h : ndB K = true) : ND K := ⟨(Bool.and_eq_true_iff.mp h).1, of_decide_eq_true (Bool.and_eq_true_iff.mp h).2⟩
end SQ

/-! What was told, and what was caught, of a fraction. -/
namespace SQ
open PySem PySem.Spec PyProof.Rows L2 SF SFT LamX
/-- kept by all but the tables' growth -/
def GN (G : L2.St → Hp → Prop) : Prop := ∀ σ H H', G σ H → ExtN H H' → G σ H'
theorem RQ.extN {C : Addr} {H H' : Hp} {a : Addr} {n : Nat} {q : Rat} (x : RQ C H a n q) (s : ExtN H H') : RQ C H' a n q := let ⟨⟨dx, e⟩, y⟩ := x; ⟨⟨dx, s _ _ e (fun ps z => by cases z)⟩, y⟩
theorem NV.extN {C : Addr} {H H' : Hp} {k : Bool} {v : V} {n : Nat} {q : Rat} (x : NV C H k v n q) (s : ExtN H H') : NV C H' k v n q := by
  cases k with
  | true => obtain ⟨a, e, y⟩ := x; exact ⟨a, e, y.extN s⟩
  | false => exact x
theorem Sl.extN {C : Addr} {H H' : Hp} {s : Sl} {o : Option V} (h : s.ok C H o) (S : ExtN H H') : s.ok C H' o := by
  cases s with
  | fr n q => obtain ⟨a, e, r⟩ := h; exact ⟨a, e, r.extN S⟩
  | nv k n q => obtain ⟨v, e, r⟩ := h; exact ⟨v, e, r.extN S⟩
  | i z => exact h
  | pr n q => obtain ⟨p, e, r, z⟩ := h; exact ⟨p, e, S _ _ r (fun ps z => by cases z), z⟩
  | ls l => obtain ⟨p, e, r⟩ := h; exact ⟨p, e, S _ _ r (fun ps z => by cases z)⟩
  | any => trivial
theorem Env.gn {C : Addr} : ∀ {L : List Sl}, GN (Env C L)
  | [], _, _, _, _, _ => trivial
  | _ :: L, _ :: σ, H, H', h, S => ⟨Sl.extN h.1 S, Env.gn σ H H' h.2 S⟩
  | _ :: _, [], _, _, h, _ => h
/-- e is the list [w, x] of two texts, made anew; the tables of code objects may have grown -/
def TC (T : List (Addr × Str)) (G : L2.St → Hp → Prop) (w x : Str) (s : Prop) : TE := fun σ H Q => G σ H ∧ Tabs T H ∧ s ∧ ∀ p H', ExtN H H' → Tabs T H' → H' p = some (.lst [.str w, .str x]) → Q (.ref p) H'
section
variable {X : Cx} {C : Addr} {T : List (Addr × Str)} {G : L2.St → Hp → Prop} {cs : Nat → Addr} {e : Expr} {n : Nat} {q : Rat} {s : Prop}
abbrev rOwnR (C : Addr) : List V → Hp → VK → Prop := rOwnStr C (spReprB C) E0
theorem mono_ownR : Mono (rOwnR C) := fun xs H Q Q' h ⟨a, dx, fs, e1, e2, b, n, q, e3, r, hn, y, e4, z⟩ => ⟨a, dx, fs, e1, e2, b, n, q, e3, r, hn, y, e4, h _ _ z⟩
theorem pc_told {RP : List V → Hp → VK → Prop} (h : PE X e (tLam T (TTc cs (rOwnR C) RP) (fun _ => TQ C G true n q s))) (hG : GN G) : PE X e (TC T G "told" (rrepr q) (s ∧ n ≤ LIM)) :=
  pe_weak h fun σ H Q ⟨hg, hT, ⟨h1, h2⟩, z⟩ => ⟨hT, fun H1 S1 T1 Q0 hQ0 => ⟨hG _ _ _ hg S1, h1, fun v H2 S2 nv => hQ0 v H2 (by
    obtain ⟨a, rfl, y⟩ := nv_true nv
    obtain ⟨⟨dx, ea⟩, _⟩ := id y
    exact ⟨a, dx, _, rfl, ea, a, n, q, rfl, y, h2, _, rfl, _, rfl, fun L H3 S3 nL eL => z L H3 (S1.trans (ExtN.of fun b o z => S3 b o (S2 b o z))) (T1.ext fun b o z => S3 b o (S2 b o z)) eL⟩)⟩⟩
theorem pc_fail {RV : List V → Hp → VK → Prop} (h : PE X e (tLam T (TTc cs RV SX.rReprS) (fun E => TZ E (cs 10) G s))) (hG : GN G) : PE X e (TC T G "DividedByZero" "()" s) :=
  pe_weak h fun σ H Q ⟨hg, hT, h1, z⟩ => ⟨hT, fun H1 S1 T1 Q0 hQ0 => ⟨hG _ _ _ hg S1, h1, fun H2 S2 => ⟨10, [], [], by decide, rfl, .inl ⟨rfl, rfl⟩, rfl, fun p H3 S3 ep =>
    ⟨p, .tuple [], rfl, .tup ep .nil, rfl, (by decide), (by decide +kernel), _, rfl, fun L H4 S4 nL eL => z L H4 (S1.trans (ExtN.of fun b o z => S4 b o (S3 b o (S2 b o z)))) (T1.ext fun b o z => S4 b o (S3 b o (S2 b o z))) eL⟩⟩⟩⟩
end
/-! ### a def whose code object is known -/
section
variable {P : Program} {w : World} {K : PySem.W.Frag} {mg : Str → Option Value} {base : Heap}
theorem okGc {x qual : Str} {st : Stmt} {f c : Addr} {fd : FuncData} {N ps : List Str} {k : Nat} {sp : Sp} (F : Fun K x qual st f fd) (hc : fd.code = .ref c) (S : FnScope N ps (defScope st)) (len : ∀ vs H Q E, sp vs H Q E → vs.length = ps.length)
    (hbody : ∀ (A : Around) (outer : List PySem.Env) (s : Shared) (H : Hp) (vs : List V) (Q : VK) (E : XK), A.guards = some [] → Room k (A.deeper (envOfC qual (defScope st) s.heap.objs.size f (.ref c))) → sp vs H Q E →
      ∃ t, PSs (cxOf CX0 P w K mg base N qual (defScope st) f (.ref c) A outer s H E).nox (defBody st) t ∧ t { nx := fun _ H' => Q .non H', rt := Q } (start N vs) H) : FnG P w K mg base CX0 (k + 1) f fd ps sp := by
  obtain ⟨oc, od, kV, doc, pm, an, cdv, ct, osl, rfl, lk, hcd⟩ := F.ex
  cases (show cdv = Value.ref c from hc)
  refine fn_ofG lk hcd S len fun A outer s H vs Q E hgd hr hsp => ?_
  obtain ⟨t, h, q⟩ := hbody A outer s H vs Q E hgd hr hsp
  exact ⟨t, h.nox, q⟩
end
end SQ

/-! The end of a law row whose defs make lambdas: the script and the empty tables of code objects are tracked. -/
namespace SFY
open PySem PySem.Spec PyProof.Rows L2 LamX SF
/-- the script's object and the tables ts, as the abstract heap bears them -/
def startH (K : PySem.W.Frag) (a : Addr) (vs : List Value) (ns : List Int) (ts : List Addr) : Hp := fun b => if b ∈ ts then some (.tbl #[]) else scriptH K a vs ns b
section
variable {P : Program} {w : World} {K : PySem.W.Frag} {a : Addr} {vs : List Value} {ns : List Int} {s₁ : Shared} {ts : List Addr}
theorem startH_in {b : Addr} (h : b ∈ ts) : startH K a vs ns ts b = some (.tbl #[]) := if_pos h
theorem startH_out {b : Addr} (h : b ∉ ts) : startH K a vs ns ts b = scriptH K a vs ns b := if_neg h
/-- whatever is neither the tracked script nor a table stands in the base -/
theorem startH_base {b : Addr} {o : Obj} (e : s₁.heap.get? b = some o) (ht : b ∉ ts) (hn : b = a → K.lookup a ≠ none) : (hidT s₁.heap (startH K a vs ns ts)).get? b = some o := by
  refine hidT_get e ?_
  rw [startH_out ht]
  cases q : scriptH K a vs ns b with
  | none => rfl
  | some u =>
    obtain ⟨z, hk, _⟩ := scriptH_some q
    exact absurd hk (hn z)
theorem law_callTG {mg mb : Str → Option Value} {k : Nat} {fa : Addr} {cs : List (Addr × Addr)} {fd : FuncData} {x : Str} {sp : Sp}
    (KX : K.In s₁.heap) (hns : s₁.heap.Ns mainGlobals mg) (hb : s₁.heap.Ns builtinsNs mb) (hbb : ∀ x : Str, x ≠ "__name__" → mb x = bootBuiltins x) (hlim : s₁.heap.NoLimit) (hg : s₁.gens = #[])
    (hT : ∀ p ∈ cs, s₁.heap.get? p.2 = some (PySem.W.tabObj #[])) (nT : ∀ p ∈ cs, K.lookup p.2 = none) (hC : ∀ p ∈ cs, PySem.W.codeHdIn K p.1 p.2 = true)
    (hbm : ∃ (bm : Addr) (ob : Obj), mg "__builtins__" = some (.ref bm) ∧ bm ≠ builtinsNs ∧ s₁.heap.get? bm = some ob ∧ ob.cls = .type "module" ∧ ob.dict = some builtinsNs ∧ ob.data = .plain)
    (ha : s₁.heap.get? a = some { cls := .type "list", data := .seq vs.toArray }) (hi : IntsAre vs ns) (hl : ns.length ≤ sizeLine) (hr : Room k callerA)
    (F : ∀ base : Heap, K.In base → base.Ns mainGlobals mg → (∀ p ∈ cs, TabB base mg p.1 p.2) → FnG P w K mg base CX0 k fa fd [x] sp) (hbind : ∀ (s : Shared) (u : Value), BindsTo s fd ⟨[u], []⟩ [(x, u)])
    (hsp : ∀ H : Hp, (∀ p ∈ cs, H p.2 = some (.tbl #[])) → SqL K H a (ns.map V.int) → sp [.ref a] H (fun v _ => v = .bl true) fun _ _ _ => False) :
    codeAny (model P w) callerA (.call (.ref fa) ⟨[.ref a], []⟩) (fun r s' => r = .ok (.ret (.bool true)) ∧ PySem.OldK s₁.heap s'.heap ∧ s'.os = s₁.os ∧ AllBare s'.gens) s₁ := by
  generalize ets : cs.map (·.2) = ts
  have tab : ∀ b, b ∈ ts → ∃ p ∈ cs, p.2 = b := fun b hb => by
    rw [← ets] at hb
    exact List.mem_map.mp hb
  have tabG : ∀ b, b ∈ ts → s₁.heap.get? b = some (PySem.W.tabObj #[]) := fun b hb => let ⟨p, hp, e⟩ := tab b hb; e ▸ hT p hp
  have tabIn : ∀ p ∈ cs, p.2 ∈ ts := fun p hp => by rw [← ets]; exact List.mem_map.mpr ⟨p, hp, rfl⟩
  have notT : ∀ {b : Addr} {o : Obj}, s₁.heap.get? b = some o → o.data ≠ (PySem.W.tabObj #[]).data → b ∉ ts := fun {b o} e d hb => by
    rw [tabG b hb] at e
    cases e
    exact d rfl
  have aT : a ∉ ts := notT ha (by intro z; cases z)
  have kT : ∀ {b : Addr} {o : Obj}, K.lookup b = some o → b ∉ ts := fun {b o} e hb => by
    obtain ⟨p, hp, rfl⟩ := tab b hb
    rw [nT p hp] at e
    cases e
  have kb : K.In (hidT s₁.heap (startH K a vs ns ts)) := fun b o e => startH_base (KX b o e) (kT e) fun z n => by
    rw [← z, e] at n
    cases n
  have nsK : ∀ {b : Addr} {m : Str → Option Value}, s₁.heap.Ns b m → (hidT s₁.heap (startH K a vs ns ts)).Ns b m := fun {b m} ⟨o, es, ep, e, d, r⟩ =>
    ⟨o, es, ep, startH_base e (notT e (by rw [d]; intro z; cases z)) (fun z => by
      rw [z, ha] at e
      cases e
      cases d), d, r⟩
  have nb := nsK hns
  have lb : (hidT s₁.heap (startH K a vs ns ts)).NoLimit := let ⟨mc, n1, n2⟩ := hlim; ⟨mc, nsK n1, n2⟩
  have okH : HOk P w (startH K a vs ns ts) s₁.heap := fun b u e => by
    by_cases hb : b ∈ ts
    · rw [startH_in hb] at e
      cases e
      exact tabG b hb
    · rw [startH_out hb] at e
      refine (scriptH_ok (P := P) (w := w) (K := K) ha hi hl b u e).stay (fun c v hc r => r) (fun c r => ?_) fun c xs r => ?_
      · obtain ⟨_, _, z⟩ := scriptH_some r
        cases z
      · obtain ⟨_, _, z⟩ := scriptH_some r
        cases z
  have noF : ∀ b, b ∈ frs [] → False := fun b hb => nomatch hb
  have e0 : Env0 P w K mg (hidT s₁.heap (startH K a vs ns ts)) callerA [] s₁ (startH K a vs ns ts) :=
    { frames := rfl, mod := ⟨kb, nb, ⟨mb, nsK hb, hbb⟩, lb⟩, bs := fun b o e => of_hidT e, bsz := Nat.le_of_eq (hidT_size _ _), funs := trivial, frf := fun b z => (noF b z).elim, hok := okH, bare := .of_eq hg }
  have TB : ∀ p ∈ cs, TabB (hidT s₁.heap (startH K a vs ns ts)) mg p.1 p.2 := fun p hp => by
    have atP := tabG p.2 (tabIn p hp)
    refine ⟨PySem.W.codeHd_of_K kb (hC p hp), ?_, fun z => ?_⟩
    · obtain ⟨bm, ob, b1, b2, b3, b4, b5, b6⟩ := hbm
      refine ⟨bm, ob, b1, b2, fun z => ?_, fun z => ?_, startH_base b3 (notT b3 (by rw [b6]; intro z; cases z)) (fun z => ?_), b4, b5, b6⟩
      · obtain ⟨o, es, ep, e, d, _⟩ := hns
        rw [z, e] at b3
        cases b3
        rw [b6] at d
        cases d
      · rw [z, atP] at b3
        cases b3
        cases b6
      · rw [z, ha] at b3
        cases b3
        cases b6
    · obtain ⟨o, es, ep, e, d, _⟩ := hns
      rw [z, atP] at e
      cases e
      cases d
  have hS : SqL K (startH K a vs ns ts) a (ns.map V.int) := by
    rcases scriptH_seq KX ha hi hl with (h | ⟨o, h⟩) | h
    · exact .inl (.inl (by rw [startH_out aT]; exact h))
    · exact .inl (.inr ⟨o, by rw [startH_out aT]; exact h⟩)
    · exact .inr h
  have run := (F _ kb nb TB).run callerA [] s₁ _ ⟨[.ref a], []⟩ [.ref a] [.ref a] _ _ rfl hr e0 (hbind s₁ (.ref a)) (.cons rfl .nil) (hsp _ (fun p hp => startH_in (tabIn p hp)) hS)
  refine codeAny_mono run fun r s' q => ?_
  rcases r with e | fl
  · exact False.elim q
  cases fl <;> first | exact False.elim q | skip
  obtain ⟨v, H', os, bare, un, ok', rv, qv⟩ := q
  have ev : v = .bl true := qv
  rw [ev] at rv
  cases rv
  have still : ∀ b o, s₁.heap.get? b = some o → b ∉ ts → s'.heap.get? b = some o := fun b o e hb => by
    cases z : startH K a vs ns ts b with
    | none => exact un.keep b o e z (noF b) (by simp)
    | some u =>
      have z2 := z
      rw [startH_out hb] at z2
      obtain ⟨rfl, _, rfl⟩ := scriptH_some z2
      have after := (ok' b _ (un.frzs b _ _ z)).1
      rw [e] at ha
      rw [ha]
      exact after
  have grown : ∀ b, b ∈ ts → ∃ more : Array Value, s'.heap.get? b = some (PySem.W.tabObj more) := fun b hb => by
    obtain ⟨more, z⟩ := un.tbls b #[] (startH_in hb)
    exact ⟨_, ok' b _ z⟩
  refine ⟨rfl, ⟨fun b o e => ?_, fun b o e => ?_⟩, os, bare⟩
  · by_cases hb : b ∈ ts
    · obtain ⟨p, hp, rfl⟩ := tab b hb
      obtain ⟨more, hm⟩ := grown _ hb
      have atP := hT p hp
      rw [atP] at e
      cases e
      exact .inr (.inl ⟨((PySem.W.codeHd_of_K KX (hC p hp)).tab atP).isCodeTable, rfl, #[], more, rfl, by rw [Array.empty_append]; exact hm⟩)
    · exact .inl (still b o e hb)
  · by_cases hb : b ∈ ts
    · obtain ⟨more, hm⟩ := grown b hb
      exact ⟨_, hm⟩
    · exact ⟨o, still b o e hb⟩
end
/-- what is known of the law's def at the head's heap -/
def LawAtG (l : PySem.W.OpenLaw) (w : World) (K : PySem.W.Frag) (k n : Nat) (x : Str) (mg : Str → Option Value) (fa : Addr) (ts : List Addr) : Prop :=
  ∃ (fd : FuncData) (cs : List (Addr × Addr)) (sp : Sp), (∀ p ∈ cs, p.2 ∈ ts ∧ K.lookup p.2 = none ∧ PySem.W.codeHdIn K p.1 p.2 = true) ∧ (∀ (s : Shared) (u : Value), BindsTo s fd ⟨[u], []⟩ [(x, u)]) ∧
    (∀ (H : Hp) (a : Addr) (ns : List Int), ns.length ≤ n → (∀ p ∈ cs, H p.2 = some (.tbl #[])) → SqL K H a (ns.map V.int) → sp [.ref a] H (fun v _ => v = .bl true) fun _ _ _ => False) ∧
    ∀ base : Heap, K.In base → base.Ns mainGlobals mg → (∀ p ∈ cs, TabB base mg p.1 p.2) → FnG l.prog w K mg base CX0 k fa fd [x] sp
/-- the goal that the head leaves -/
theorem walkGT {l : PySem.W.OpenLaw} {n k : Nat} {q : Program} {loose : List Str} {XP : (Str → Option Value) → Heap → Prop} {YP : World → Heap → Prop} {d : DefRec} {K : Params → PySem.W.Frag} {x : Str} {ts : List Addr}
    (hn : l.most = some n) (hn2 : n ≤ sizeLine) (hdf : d.params.defaults = []) (hr : Room k callerA) (hY : ∀ (w : World) (h : Heap), YP w h → (K w.params).In h ∧ ∀ P ∈ ts, h.get? P = some (PySem.W.tabObj #[]))
    (F : ∀ (w : World) (mg : Str → Option Value) (fa : Addr) (h : Heap), (K w.params).In h → h.Ns mainGlobals mg → mg d.name = some (.ref fa) → LawAtG l w (K w.params) k n x mg fa ts) :
    PySem.W.WalkO q loose XP YP l.row.toRowW d [] (fun f vs => PySem.call f vs) := by
  refine Att.attach_call hn hdf fun w s₀ s₁ mg mb fa o pm cd doc a vs ns G Y ho hd hcd hmg hobj hints hlen hg => ?_
  obtain ⟨KX, hT⟩ := hY w _ Y
  obtain ⟨fd, cs, sp, hcs, hb, hsp, hF⟩ := F w mg fa _ KX G.T.g hmg
  exact law_callTG KX G.T.g G.T.b G.T.builtins G.T.nolimit hg (fun p hp => hT _ (hcs p hp).1) (fun p hp => (hcs p hp).2.1) (fun p hp => (hcs p hp).2.2) G.T.bmain hobj hints (Nat.le_trans hlen hn2) hr hF hb fun H hH hS => hsp H a ns hlen hH hS
/-- the table that the code object at c names -/
def tabOf (K : PySem.W.Frag) (c : Addr) : Addr := match K.lookup c with
  | some ⟨_, _, .fields vs, _⟩ => (match (vs[11]? : Option Value) with
    | some (.ref P) => P
    | _ => 0)
  | _ => 0
def tabsB (K : PySem.W.Frag) (ts : List Addr) (cs : List Addr) : Bool := cs.all fun c => ts.contains (tabOf K c) && ((K.lookup (tabOf K c)).isNone && PySem.W.codeHdIn K c (tabOf K c))
theorem tabsB_ok {K : PySem.W.Frag} {ts cs : List Addr} (h : tabsB K ts cs = true) : ∀ p ∈ cs.map fun c => (c, tabOf K c), p.2 ∈ ts ∧ K.lookup p.2 = none ∧ PySem.W.codeHdIn K p.1 p.2 = true := fun p hp => by
  obtain ⟨c, hc, rfl⟩ := List.mem_map.mp hp
  obtain ⟨h1, h2⟩ := Bool.and_eq_true_iff.mp (List.all_eq_true.mp h c hc)
  obtain ⟨h2, h3⟩ := Bool.and_eq_true_iff.mp h2
  exact ⟨List.contains_iff_mem.mp h1, Option.isNone_iff_eq_none.mp h2, h3⟩
end SFY

/-! The head by one run of imports and top: defs wherever they stand, one Bool over the written part, the empty tables of code objects. -/
namespace SJ
open PySem PySem.Spec PyProof.Rows L2 SF LamX
structure DJ where
  ad : PySem.W.Frag → Addr
  nm : Str
  ql : Str
  pr : Arguments
  bd : List Stmt
  sc : Scope
  df : List He.Dv := []
def seenAt (K : PySem.W.Frag) (a : Addr) : He.FnW := match K.lookup a with
  | some ⟨_, _, .func u, _⟩ => some (u.name, u.qualname, u.params, u.body, u.scope, u.globals, u.closure, u.builtins)
  | _ => none
def DJ.due (d : DJ) : He.FnW := some (d.nm, d.ql, d.pr, .stmts d.bd, d.sc, mainGlobals, [], builtinsNs)
def DJ.good (K : PySem.W.Frag) (d : DJ) : Bool := PySem.W.keepIn K (.ref (d.ad K)) && (match K.lookup (d.ad K) with
  | some ⟨_, _, .func u, _⟩ => PySem.W.codeIn K u.code d.ql && He.dflB K u.defaults (d.df.map (He.Dv.v K))
  | _ => false)
theorem DJ.fun_ {K : PySem.W.Frag} {d : DJ} (e : seenAt K (d.ad K) = d.due) (c : d.good K = true) : ∃ fd, FunD K d.nm d.ql d.pr d.bd d.sc (d.df.map (He.Dv.v K)) [] (d.ad K) fd := by
  obtain ⟨kp, c2⟩ := Bool.and_eq_true_iff.mp c
  unfold seenAt at e
  cases q : K.lookup (d.ad K) with
  | none => rw [q] at c2; cases c2
  | some o =>
    obtain ⟨oc, od, dt, osl⟩ := o
    rw [q] at c2 e
    cases dt with
    | func u =>
      obtain ⟨u1, u2, u3, u4, u5, u6, u7, u8, u9, u10, u11, u12, u13, u14, u15⟩ := u
      have e2 : (some (u1, u2, u3, u4, u5, u6, u7, u15) : He.FnW) = some (d.nm, d.ql, d.pr, .stmts d.bd, d.sc, mainGlobals, [], builtinsNs) := e
      simp only [Option.some.injEq, Prod.mk.injEq] at e2
      obtain ⟨h1, h2, h3, h4, h5, h6, h7, h8⟩ := e2
      subst h1 h2 h3 h4 h5 h6 h7 h8
      have c3 : (PySem.W.codeIn K u13 d.ql && He.dflB K u8 (d.df.map (He.Dv.v K))) = true := c2
      obtain ⟨k1, k2⟩ := Bool.and_eq_true_iff.mp c3
      exact ⟨_, ⟨oc, od, u8, u9, u10, u11, u12, u13, u14, osl, rfl, q, k1, He.dflB_ok k2, .inl rfl⟩, kp⟩
    | _ => cases c2
theorem fun_of {K : PySem.W.Frag} {x qual : Str} {st : Stmt} {f : Addr} {fd : FuncData} (F : FunD K x qual (defArgs st) (defBody st) (defScope st) [] [] f fd) : Fun K x qual st f fd := by
  obtain ⟨oc, od, dV, kV, doc, pm, an, cdv, ct, osl, rfl, lk, hcd, hD, hK⟩ := F.ex
  rcases hD with ⟨_, rfl⟩ | ⟨e, _⟩
  · exact ⟨⟨oc, od, kV, doc, pm, an, cdv, ct, osl, rfl, lk, hcd⟩, F.kp⟩
  · exact absurd rfl e
/-- the code object of the function at a; its table -/
def codeAt (K : PySem.W.Frag) (a : Addr) : Addr := match K.lookup a with
  | some ⟨_, _, .func u, _⟩ => (match u.code with
    | .ref c => c
    | _ => 0)
  | _ => 0
def tabAt (K : PySem.W.Frag) (a : Addr) : Addr := SFY.tabOf K (codeAt K a)
/-- what an object names; of its bases only those above it -/
def refsJ (o : Obj) : List Addr := (match o.data with
  | .cls u => u.ns :: (u.mro.drop 1).flatMap He.refV
  | .func u => He.refV u.code ++ He.refV u.defaults
  | .dict es _ => es.toList.flatMap fun e => He.refV e.val
  | .seq its _ => its.toList.flatMap He.refV
  | .fields vs => vs.toList.flatMap He.refV
  | _ => [])
def pickJ (g : Addr → Option Obj) : List Addr → List (Addr × Obj)
  | [] => []
  | a :: r => match g a with
    | some o => (a, o) :: pickJ g r
    | none => pickJ g r
theorem pickJ_ok {g : Addr → Option Obj} : ∀ {as : List Addr}, ∀ p ∈ pickJ g as, g p.1 = some p.2
  | [], p, h => nomatch h
  | a :: r, p, h => by
    unfold pickJ at h
    cases e : g a with
    | none => rw [e] at h; exact pickJ_ok p h
    | some o =>
      rw [e] at h
      rcases List.mem_cons.mp h with rfl | h
      · exact e
      · exact pickJ_ok p h
def levJ (g : Addr → Option Obj) : Nat → List Addr → List (Addr × Obj)
  | 0, _ => []
  | n + 1, fr => pickJ g fr ++ levJ g n ((pickJ g fr).flatMap fun p => refsJ p.2)
theorem levJ_ok {g : Addr → Option Obj} : ∀ {n : Nat} {fr : List Addr}, ∀ p ∈ levJ g n fr, g p.1 = some p.2
  | 0, _, p, h => nomatch h
  | n + 1, fr, p, h => by
    unfold levJ at h
    rcases List.mem_append.mp h with h | h
    · exact pickJ_ok p h
    · exact levJ_ok p h
theorem in_of {K : PySem.W.Frag} {h : Heap} (e : ∀ p ∈ K, h.get? p.1 = some p.2) : K.In h := fun a o l => by
  have z : ∀ K : PySem.W.Frag, K.lookup a = some o → (a, o) ∈ K := fun K => by
    induction K with
    | nil => intro q; cases q
    | cons p r ih =>
      intro q
      obtain ⟨b, u⟩ := p
      rw [List.lookup_cons] at q
      cases hb : a == b with
      | true =>
        rw [hb] at q
        have e1 : a = b := beq_iff_eq.mp hb
        have e2 : u = o := Option.some.inj q
        rw [e1, e2]
        exact List.mem_cons_self
      | false =>
        rw [hb] at q
        exact List.mem_cons_of_mem _ (ih q)
  exact e (a, o) (z K l)
/-- the list laid out, before it is looked at -/
def frL {β : Type} : List (Addr × Obj) → (List (Addr × Obj) → β) → β
  | [], k => k []
  | (a, ⟨c, d, t, s⟩) :: r, k => HeadRun.frNat a fun a => frL r fun r => k ((a, ⟨c, d, t, s⟩) :: r)
theorem frL_eq {β : Type} : ∀ (l : List (Addr × Obj)) (k : List (Addr × Obj) → β), frL l k = k l
  | [], k => rfl
  | (a, ⟨c, d, t, s⟩) :: r, k => by
    unfold frL
    rw [HeadRun.frNat_eq, frL_eq r]
def frN {β : Type} : List Nat → (List Nat → β) → β
  | [], k => k []
  | a :: r, k => HeadRun.frNat a fun a => frN r fun r => k (a :: r)
theorem frN_eq {β : Type} : ∀ (l : List Nat) (k : List Nat → β), frN l k = k l
  | [], k => rfl
  | a :: r, k => by
    unfold frN
    rw [HeadRun.frNat_eq, frN_eq r]
/-- the part without the tables -/
def cutJ {β : Type} (lam : List (PySem.W.Frag → Addr)) (K : PySem.W.Frag) (k : PySem.W.Frag → β) : β := match lam with
  | [] => k K
  | f :: fs => frN ((f :: fs).map fun f => tabAt K (f K)) fun ts => frL (K.filter fun p => !ts.contains p.1) k
def partJ {β : Type} (n : Nat) (lam : List (PySem.W.Frag → Addr)) (g : Addr → Option Obj) (k : PySem.W.Frag → β) : β := frL (levJ g n [mainGlobals, cStatics]) fun K => cutJ lam K k
theorem partJ_is {n : Nat} {lam : List (PySem.W.Frag → Addr)} {g : Addr → Option Obj} : ∃ K : PySem.W.Frag, (∀ p ∈ K, g p.1 = some p.2) ∧ ∀ {β : Type} (k : PySem.W.Frag → β), partJ n lam g k = k K := by
  unfold partJ cutJ
  cases lam with
  | nil => exact ⟨_, fun p h => levJ_ok p h, fun k => by rw [frL_eq]⟩
  | cons f fs => exact ⟨_, fun p h => levJ_ok p (List.mem_filter.mp h).1, fun k => by
      rw [frL_eq]
      show frN _ _ = _
      rw [frN_eq, frL_eq]⟩
abbrev AlJ : Type := (Bool × List He.FnW) × List (Option Obj)
section
variable (n : Nat) (fn : List DJ) (ex : PySem.W.Frag → Bool) (lam : List (PySem.W.Frag → Addr))
def obsK (K : PySem.W.Frag) : Bool × List He.FnW := ((fn.all fun d => d.good K) && ex K, fn.map fun d => seenAt K (d.ad K))
def obsJ (g : Addr → Option Obj) : AlJ := partJ n lam g fun K => (obsK fn ex K, lam.map fun f => g (tabAt K (f K)))
def valJ : AlJ := ((true, fn.map DJ.due), lam.map fun _ => some (PySem.W.tabObj #[]))
def SaysJ (K : PySem.W.Frag) : Prop := obsK fn ex K = (true, fn.map DJ.due)
def hookJ : PySem.W.Hook where
  α := AlJ
  obs := fun s => obsJ n fn ex lam s.heap.get?
  val := fun _ => valJ fn lam
  says := fun _ h => ∃ K : PySem.W.Frag, K.In h ∧ SaysJ fn ex K ∧ ∀ f ∈ lam, h.get? (tabAt K (f K)) = some (PySem.W.tabObj #[])
  of := fun _ s e => by
    obtain ⟨K, hK, hk⟩ := partJ_is (n := n) (lam := lam) (g := s.heap.get?)
    have e : obsJ n fn ex lam s.heap.get? = valJ fn lam := e
    unfold obsJ at e
    rw [hk] at e
    exact ⟨K, in_of hK, congrArg Prod.fst e, List.map_inj_left.mp (congrArg Prod.snd e)⟩
  keeps := fun _ _ _ ⟨K, hK, c, t⟩ k => ⟨K, PySem.W.Frag.In.keeps hK k, c, fun f hf => k _ _ (t f hf)⟩
end
section
variable {n : Nat} {fn : List DJ} {ex : PySem.W.Frag → Bool} {lam : List (PySem.W.Frag → Addr)} {K : PySem.W.Frag}
theorem obsJ_eq (s : PySem.W.SharedT) : obsJ n fn ex lam (HeadRun.getT s) = (hookJ n fn ex lam).obs s.abs := by
  have e : HeadRun.getT s = s.abs.heap.get? := funext (HeadRun.getT_eq s)
  rw [e] <;> rfl
theorem SaysJ.facts (c : SaysJ fn ex K) : ex K = true := (Bool.and_eq_true_iff.mp (congrArg Prod.fst c)).2
theorem SaysJ.def_ (c : SaysJ fn ex K) (i : Nat) {d : DJ} (h : fn[i]? = some d := by rfl) : ∃ fd, FunD K d.nm d.ql d.pr d.bd d.sc (d.df.map (He.Dv.v K)) [] (d.ad K) fd := by
  have e : fn.map (fun d => seenAt K (d.ad K)) = fn.map DJ.due := congrArg Prod.snd c
  have e2 : (fn.map fun d => seenAt K (d.ad K))[i]? = (fn.map DJ.due)[i]? := by rw [e]
  rw [List.getElem?_map, List.getElem?_map, h] at e2
  exact DJ.fun_ (Option.some.inj e2) (List.all_eq_true.mp (Bool.and_eq_true_iff.mp (congrArg Prod.fst c)).1 d (List.mem_of_getElem? h))
end
/-- the end: the law's def over a written part that is told by the hook -/
theorem walkJ {l : PySem.W.OpenLaw} {n k : Nat} {q : Program} {loose : List Str} {XP : (Str → Option Value) → Heap → Prop} {YP : World → Heap → Prop} {d : DefRec} {x : Str}
    (hn : l.most = some n) (hn2 : n ≤ sizeLine) (hdf : d.params.defaults = []) (hr : Room k callerA)
    (F : ∀ (w : World) (mg : Str → Option Value) (fa : Addr) (h : Heap), YP w h → h.Ns mainGlobals mg → mg d.name = some (.ref fa) → ∃ (K : PySem.W.Frag) (ts : List Addr), K.In h ∧ (∀ P ∈ ts, h.get? P = some (PySem.W.tabObj #[])) ∧ SFY.LawAtG l w K k n x mg fa ts) :
    PySem.W.WalkO q loose XP YP l.row.toRowW d [] (fun f vs => PySem.call f vs) := by
  refine Att.attach_call hn hdf fun w s₀ s₁ mg mb fa o pm cd doc a vs ns G Y ho hd hcd hmg hobj hints hlen hg => ?_
  obtain ⟨K, ts, KX, hT, fd, cs, sp, hcs, hb, hsp, hF⟩ := F w mg fa _ Y G.T.g hmg
  exact SFY.law_callTG KX G.T.g G.T.b G.T.builtins G.T.nolimit hg (fun p hp => hT _ (hcs p hp).1) (fun p hp => (hcs p hp).2.1) (fun p hp => (hcs p hp).2.2) G.T.bmain hobj hints (Nat.le_trans hlen hn2) hr hF hb fun H hH hS => hsp H a ns hlen hH hS
/-- the facts of a list of truth values, by their places -/
theorem nthB {bs : List Bool} (h : bs.all id = true) (i : Nat) {b : Bool} (e : bs[i]? = some b := by rfl) : b = true := List.all_eq_true.mp h b (List.mem_of_getElem? e)
theorem decB {p : Prop} [Decidable p] (h : decide p = true) : p := of_decide_eq_true h
/-- the first value that an instance's slots, as a property's or a classmethod's, name -/
def recF (K : PySem.W.Frag) (p : Addr) (t : String) : Addr := match PySem.W.recIn K p t with
  | some (.ref f :: _) => f
  | _ => 0
def recR (K : PySem.W.Frag) (p : Addr) (t : String) : List Value := match PySem.W.recIn K p t with
  | some (_ :: r) => r
  | _ => []
end SJ
namespace SJ
open PySem PySem.Spec PyProof.Rows L2 SF LamX
def refCode (K : PySem.W.Frag) (a : Addr) : Bool := match K.lookup a with
  | some ⟨_, _, .func u, _⟩ => (match u.code with
    | .ref _ => true
    | _ => false)
  | _ => false
theorem code_of {K : PySem.W.Frag} {x qual : Str} {st : Stmt} {f : Addr} {fd : FuncData} (F : Fun K x qual st f fd) (h : refCode K f = true) : fd.code = .ref (codeAt K f) := by
  obtain ⟨oc, od, kV, doc, pm, an, cdv, ct, osl, rfl, lk, hcd⟩ := F.ex
  unfold refCode at h
  unfold codeAt
  rw [lk] at h ⊢
  cases cdv <;> first | rfl | cases h
def mroB (K : PySem.W.Frag) (C : Addr) : Bool := match PySem.W.clsIn K C with
  | some cd => decide (cd.mro = [.ref C, .type "object"])
  | none => false
theorem mroB_ok {K : PySem.W.Frag} {C : Addr} (h : mroB K C = true) : ∃ cd, PySem.W.clsIn K C = some cd ∧ cd.mro = [.ref C, .type "object"] := by
  unfold mroB at h
  cases e : PySem.W.clsIn K C with
  | none => rw [e] at h; cases h
  | some cd => rw [e] at h; exact ⟨cd, rfl, of_decide_eq_true h⟩
/-- the object behind a class's classmethod -/
def clsP (K : PySem.W.Frag) (C : Addr) (x : Str) : Addr := match PySem.W.findCls K (.ref C) (.type "type") x with
  | some (.get _ (.ref p) _ _) => p
  | _ => 0
def clsB (K : PySem.W.Frag) (C : Addr) (x : Str) : Bool := match PySem.W.findCls K (.ref C) (.type "type") x with
  | some (.get g (.ref _) o t) => decide (g = .builtin "classmethod.__get__") && (decide (o = .none) && decide (t = .ref C))
  | _ => false
theorem clsB_ok {K : PySem.W.Frag} {C : Addr} {x : Str} (h : clsB K C x = true) : PySem.W.findCls K (.ref C) (.type "type") x = some (.get (.builtin "classmethod.__get__") (.ref (clsP K C x)) .none (.ref C)) := by
  unfold clsB at h
  unfold clsP
  cases e : PySem.W.findCls K (.ref C) (.type "type") x with
  | none => rw [e] at h; cases h
  | some r =>
    rw [e] at h
    cases r with
    | val v => cases h
    | get g a o t =>
      cases a with
      | ref p =>
        obtain ⟨h1, h⟩ := Bool.and_eq_true_iff.mp h
        obtain ⟨h2, h3⟩ := Bool.and_eq_true_iff.mp h
        rw [of_decide_eq_true h1, of_decide_eq_true h2, of_decide_eq_true h3]
      | _ => cases h
def isInt (K : PySem.W.Frag) (x : Str) (i : Int) : Bool := match PySem.W.nsIn K mainGlobals x with
  | some (some (.int j _)) => decide (j = i)
  | _ => false
theorem isInt_ok {K : PySem.W.Frag} {h : Heap} {mg : Str → Option Value} (X : K.In h) (G : h.Ns mainGlobals mg) {x : Str} {i : Int} (c : isInt K x i = true) : ∃ t, mg x = some (.int i t) := He.int_ok X G c
end SJ
namespace SJ
theorem map3 {α β γ δ : Type} {o : Option α} {f : α → β} {g : α → γ} {h : α → δ} {a : β} {b : γ} {c : δ} (e1 : o.map f = some a) (e2 : o.map g = some b) (e3 : o.map h = some c) : o.map (fun x => (f x, g x, h x)) = some (a, b, c) := by
  cases o with
  | none => cases e1
  | some x =>
    cases e1
    cases e2
    cases e3
    rfl
end SJ

/-! Raising an own error over ValueError that keeps what it is given. -/
namespace SQ
open PySem PySem.Spec PyProof.Rows L2 SF
/-- the __init__ of an error of the class at C: given is kept -/
def spOI (C : Addr) : Sp := fun vs H Q _ => ∃ (p : Addr) (y : V), vs = [.ref p, y] ∧ H p = some (exo p C none) ∧ ∀ dx, H dx = none → dx ≠ p → Q .non (upd (upd H dx (exd dx [("given", y)])) p (exo p C (some dx)))
/-- the error's class by its name -/
structure OE (P : Program) (w : World) (K : PySem.W.Frag) (mg : Str → Option Value) (base : Heap) (nm : Str) (C fI : Addr) (fd : FuncData) : Prop where
  g : mg nm = some (.ref C)
  T : OexC K C
  iC : PySem.W.findIn K (.ref C) "__init__" = some (some (.ref fI))
  tI : PySem.W.typeIn K (.ref fI) = some (.type "function")
  F : FnOk P w K mg base CX0 1 fI fd ["self", "given"] (spOI C)
  b : Binds K fd ["self", "given"] []
/-- the error goes out, with v in hand -/
def ErrG (E : XK) (C : Addr) (v : V) (H : Hp) : Prop := ∀ dx H', Same H H' → H' dx = some (.xd [("given", v)]) → E (.ref C) (some dx) H'
theorem ErrG.mono {E : XK} {C : Addr} {v : V} {H H' : Hp} (h : ErrG E C v H) (S : Same H H') : ErrG E C v H' := fun dx H2 S2 e => h dx H2 (S.trans S2) e
section
variable {X : Cx} {C fI : Addr} {fd : FuncData} {nm : Str} {W : WX} {e : Expr} {te : TE} {p pos rpos : Pos}
theorem ps_oe (O : OE X.prog X.w X.K X.mg X.base nm C fI fd) (hc : X.calm = true) (tk : Takes X W) (hr : Room 2 X.A) (hg : Gl X nm) (he : PE X e te) (hm : ∀ σ H Q Q', (∀ v H', Q v H' → Q' v H') → te σ H Q → te σ H Q') (hdb : (nm == ("__debug__" : Str)) = false := by decide)
    (hs : starEach (e :: []) X.env = (false, eval e X.env) :: starEach [] X.env := by rfl) (hpl : (backTo pos (starEach [] X.env)).any (·.1) = false := by rfl) :
    PS X (.Raise (some (.Call (.Name nm p) [e] [] pos)) none rpos) (fun _ σ H => te σ H fun v H1 => ErrG (fun c d H' => W c d σ H') C v H1) := by
  have h1 : PS X (.Raise (some (.Call (.Name nm p) [e] [] pos)) none rpos) _ := ps_raise hc tk (pmk_oex O.T O.iC O.tI O.F hr O.b .nil pass0 hg O.g (pa_cons he pa_nil hs) hdb hs hpl)
  refine ⟨fun pins s σ H D I h => h1.run pins s σ H D I ?_⟩
  refine hm _ _ _ _ (fun v H1 z => ?_) h
  refine ⟨by show 1 ≤ 1000; decide, fun a na => ⟨a, v, rfl, upd_same, fun dx nd ne => ⟨rfl, dx, _, upd_same, ?_, ?_, z _ _ ?_ upd_same⟩⟩⟩
  · rw [upd_ne ne]
    exact upd_same
  · rw [← nd, upd_ne ne]
  · intro b o e
    have n1 : b ≠ a := ne_of_none e na
    have nd' : H1 dx = none := by rw [← nd, upd_ne ne]
    have n2 : b ≠ dx := ne_of_none e nd'
    rw [upd_ne n2, del_ne n1, upd_ne n1, upd_ne n2, upd_ne n1]
    exact e
end
end SQ
namespace SQ
open PySem PySem.Spec PyProof.Rows L2 SF
/-- OexC as one truth value -/
def oexcB (K : PySem.W.Frag) (C : Addr) : Bool := match K.lookup C with
  | some ⟨.type "type", _, .cls cd, sl⟩ => (match cd.mro, sl.toList with
    | .ref C' :: bm, [_, _, _, _, some (.builtin n), _] => C' == C && (n == "ValueError.__new__" && (!cd.hasDel && (cd.hasDict && PySem.HandSPX.refsVE bm)))
    | _, _ => false)
  | _ => false
theorem oexcB_ok {K : PySem.W.Frag} {C : Addr} (q : oexcB K C = true) : ∃ nm q N bs bm sn sub ab col dd k0 k1 k2 k3 k5, K.lookup C = some (excClassObj nm q C N bs bm true sn sub ab col dd k0 k1 k2 k3 k5 "ValueError.__new__") ∧ PySem.HandSPX.refsVE bm = true := by
  unfold oexcB at q
  split at q
  · rename_i dd cd sl ho
    split at q
    · rename_i C' bm k0 k1 k2 k3 n k5 hm hs
      simp only [Bool.and_eq_true, beq_iff_eq, Bool.not_eq_true'] at q
      obtain ⟨rfl, rfl, hdel, hdi, ht⟩ := q
      obtain ⟨nm, bs, mro, ns, qn, hd, sn, sub, ab, col, del⟩ := cd
      dsimp only at hm hdel hdi
      subst hm hdel hdi
      have hsl : sl = #[k0, k1, k2, k3, some (.builtin "ValueError.__new__"), k5] := by
        obtain ⟨l⟩ := sl
        simp only at hs
        rw [hs]
      subst hsl
      exact ⟨nm, qn, ns, bs, bm, sn, sub, ab, col, dd, k0, k1, k2, k3, k5, ho, ht⟩
    · cases q
  · cases q
def oexB (K : PySem.W.Frag) (C fI : Addr) : Bool := oexcB K C && (decide (PySem.W.findIn K (.ref C) "__setattr__" = some (some (.builtin "object.__setattr__"))) && (decide (PySem.W.subIn K (.ref C) (.type "BaseException") = some true) && (decide (PySem.W.typeIn K (.ref C) = some (.type "type")) && (PySem.W.keepIn K (.ref C) &&
  (decide (PySem.W.findIn K (.ref C) "__init__" = some (some (.ref fI))) && (decide (PySem.W.typeIn K (.ref fI) = some (.type "function")) && decide (PySem.W.findIn K (.ref C) "given" = some none)))))))
theorem oexB_ok {K : PySem.W.Frag} {C fI : Addr} (h : oexB K C fI = true) : OexC K C ∧ PySem.W.findIn K (.ref C) "__init__" = some (some (.ref fI)) ∧ PySem.W.typeIn K (.ref fI) = some (.type "function") ∧ PySem.W.findIn K (.ref C) "given" = some none := by
  unfold oexB at h
  simp only [Bool.and_eq_true, decide_eq_true_eq] at h
  obtain ⟨h1, h2, h3, h4, h5, h6, h7, h8⟩ := h
  exact ⟨⟨oexcB_ok h1, h2, h3, h4, h5⟩, h6, h7, h8⟩
section
variable {P : Program} {w : World} {K : PySem.W.Frag} {mg : Str → Option Value} {base : Heap} {C fI : Addr} {fd : FuncData} {nm : Str}
/-- what the written part says of an error that keeps what it is given; at i: its __init__ -/
structure OEK (K : PySem.W.Frag) (mg : Str → Option Value) (nm qn : Str) (st : Stmt) (C fI : Addr) (fd : FuncData) : Prop where
  g : mg nm = some (.ref C)
  x : oexB K C fI = true
  F : Fun K "__init__" qn st fI fd
  b : Binds K fd ["self", "given"] []
end
end SQ

namespace T06
open PySem PySem.Spec PyProof.Rows L2 SF SQ
def top (i : Nat) : Stmt := PySem.Challenge.pw_seriesforms_k06_ratios_refused.main.body.getD i (.Pass ⟨0, 0, 0, 0⟩)
abbrev sIni : Stmt := inClass (top 21) 0
abbrev sRd : Stmt := inClass (top 21) 1
abbrev sENum : Stmt := inClass (top 3) 0
abbrev sETxt : Stmt := inClass (top 4) 0
abbrev sECnt : Stmt := inClass (top 5) 0
abbrev sIsW : Stmt := top 19
theorem scIsW : FnScope ["value"] ["value"] (defScope sIsW) := ⟨rfl, rfl, rfl, by decide +kernel, rfl, by decide +kernel, by decide +kernel⟩
abbrev sIsN : Stmt := top 20
theorem scIsN : FnScope ["value"] ["value"] (defScope sIsN) := ⟨rfl, rfl, rfl, by decide +kernel, rfl, by decide +kernel, by decide +kernel⟩
abbrev sAs : Stmt := top 22
theorem scAs : FnScope ["number"] ["number"] (defScope sAs) := ⟨rfl, rfl, rfl, by decide +kernel, rfl, by decide +kernel, by decide +kernel⟩
abbrev sSum : Stmt := top 23
theorem scSum : FnScope ["left", "right"] ["left", "right"] (defScope sSum) := ⟨rfl, rfl, rfl, by decide +kernel, rfl, by decide +kernel, by decide +kernel⟩
abbrev sProd : Stmt := top 24
theorem scProd : FnScope ["left", "right"] ["left", "right"] (defScope sProd) := ⟨rfl, rfl, rfl, by decide +kernel, rfl, by decide +kernel, by decide +kernel⟩
abbrev sInv : Stmt := top 25
theorem scInv : FnScope ["ratio"] ["ratio"] (defScope sInv) := ⟨rfl, rfl, rfl, by decide +kernel, rfl, by decide +kernel, by decide +kernel⟩
abbrev sFlo : Stmt := top 26
theorem scFlo : FnScope ["left", "right", "quotient"] ["left", "right"] (defScope sFlo) := ⟨rfl, rfl, rfl, by decide +kernel, rfl, by decide +kernel, by decide +kernel⟩
abbrev sRem : Stmt := top 27
theorem scRem : FnScope ["left", "right"] ["left", "right"] (defScope sRem) := ⟨rfl, rfl, rfl, by decide +kernel, rfl, by decide +kernel, by decide +kernel⟩
abbrev sWPo : Stmt := top 28
theorem scWPo : FnScope ["base", "times", "result", "_"] ["base", "times"] (defScope sWPo) := ⟨rfl, rfl, rfl, by decide +kernel, rfl, by decide +kernel, by decide +kernel⟩
abbrev sIsT : Stmt := top 29
theorem scIsT : FnScope ["text", "top", "stroke", "bottom"] ["text"] (defScope sIsT) := ⟨rfl, rfl, rfl, by decide +kernel, rfl, by decide +kernel, by decide +kernel⟩
abbrev sIsP : Stmt := top 30
theorem scIsP : FnScope ["text"] ["text"] (defScope sIsP) := ⟨rfl, rfl, rfl, by decide +kernel, rfl, by decide +kernel, by decide +kernel⟩
abbrev sTop : Stmt := inClass (top 21) 2
theorem scTop : FnScope ["self"] ["self"] (defScope sTop) := ⟨rfl, rfl, rfl, by decide +kernel, rfl, by decide +kernel, by decide +kernel⟩
abbrev sBot : Stmt := inClass (top 21) 3
theorem scBot : FnScope ["self"] ["self"] (defScope sBot) := ⟨rfl, rfl, rfl, by decide +kernel, rfl, by decide +kernel, by decide +kernel⟩
abbrev sAdd : Stmt := inClass (top 21) 4
theorem scAdd : FnScope ["self", "other"] ["self", "other"] (defScope sAdd) := ⟨rfl, rfl, rfl, by decide +kernel, rfl, by decide +kernel, by decide +kernel⟩
abbrev sRadd : Stmt := inClass (top 21) 5
theorem scRadd : FnScope ["self", "other"] ["self", "other"] (defScope sRadd) := ⟨rfl, rfl, rfl, by decide +kernel, rfl, by decide +kernel, by decide +kernel⟩
abbrev sSub : Stmt := inClass (top 21) 6
theorem scSub : FnScope ["self", "other"] ["self", "other"] (defScope sSub) := ⟨rfl, rfl, rfl, by decide +kernel, rfl, by decide +kernel, by decide +kernel⟩
abbrev sRsub : Stmt := inClass (top 21) 7
theorem scRsub : FnScope ["self", "other"] ["self", "other"] (defScope sRsub) := ⟨rfl, rfl, rfl, by decide +kernel, rfl, by decide +kernel, by decide +kernel⟩
abbrev sMul : Stmt := inClass (top 21) 8
theorem scMul : FnScope ["self", "other"] ["self", "other"] (defScope sMul) := ⟨rfl, rfl, rfl, by decide +kernel, rfl, by decide +kernel, by decide +kernel⟩
abbrev sRmul : Stmt := inClass (top 21) 9
theorem scRmul : FnScope ["self", "other"] ["self", "other"] (defScope sRmul) := ⟨rfl, rfl, rfl, by decide +kernel, rfl, by decide +kernel, by decide +kernel⟩
abbrev sFDi : Stmt := inClass (top 21) 10
theorem scFDi : FnScope ["self", "other"] ["self", "other"] (defScope sFDi) := ⟨rfl, rfl, rfl, by decide +kernel, rfl, by decide +kernel, by decide +kernel⟩
abbrev sRFDi : Stmt := inClass (top 21) 11
theorem scRFDi : FnScope ["self", "other"] ["self", "other"] (defScope sRFDi) := ⟨rfl, rfl, rfl, by decide +kernel, rfl, by decide +kernel, by decide +kernel⟩
abbrev sMod : Stmt := inClass (top 21) 12
theorem scMod : FnScope ["self", "other"] ["self", "other"] (defScope sMod) := ⟨rfl, rfl, rfl, by decide +kernel, rfl, by decide +kernel, by decide +kernel⟩
abbrev sRMod : Stmt := inClass (top 21) 13
theorem scRMod : FnScope ["self", "other"] ["self", "other"] (defScope sRMod) := ⟨rfl, rfl, rfl, by decide +kernel, rfl, by decide +kernel, by decide +kernel⟩
abbrev sPow : Stmt := inClass (top 21) 14
theorem scPow : FnScope ["self", "other"] ["self", "other"] (defScope sPow) := ⟨rfl, rfl, rfl, by decide +kernel, rfl, by decide +kernel, by decide +kernel⟩
abbrev sNeg : Stmt := inClass (top 21) 15
theorem scNeg : FnScope ["self"] ["self"] (defScope sNeg) := ⟨rfl, rfl, rfl, by decide +kernel, rfl, by decide +kernel, by decide +kernel⟩
abbrev sAbs : Stmt := inClass (top 21) 16
theorem scAbs : FnScope ["self"] ["self"] (defScope sAbs) := ⟨rfl, rfl, rfl, by decide +kernel, rfl, by decide +kernel, by decide +kernel⟩
abbrev sBool : Stmt := inClass (top 21) 17
theorem scBool : FnScope ["self"] ["self"] (defScope sBool) := ⟨rfl, rfl, rfl, by decide +kernel, rfl, by decide +kernel, by decide +kernel⟩
abbrev sEq : Stmt := inClass (top 21) 18
theorem scEq : FnScope ["self", "other"] ["self", "other"] (defScope sEq) := ⟨rfl, rfl, rfl, by decide +kernel, rfl, by decide +kernel, by decide +kernel⟩
abbrev sStr : Stmt := inClass (top 21) 19
theorem scStr : FnScope ["self"] ["self"] (defScope sStr) := ⟨rfl, rfl, rfl, by decide +kernel, rfl, by decide +kernel, by decide +kernel⟩
abbrev sRepr : Stmt := inClass (top 21) 20
theorem scRepr : FnScope ["self"] ["self"] (defScope sRepr) := ⟨rfl, rfl, rfl, by decide +kernel, rfl, by decide +kernel, by decide +kernel⟩
abbrev sOver : Stmt := inClass (top 21) 21
theorem scOver : FnScope ["self", "other"] ["self", "other"] (defScope sOver) := ⟨rfl, rfl, rfl, by decide +kernel, rfl, by decide +kernel, by decide +kernel⟩
abbrev sPower : Stmt := inClass (top 21) 22
theorem scPower : FnScope ["self", "exponent", "base", "times"] ["self", "exponent"] (defScope sPower) := ⟨rfl, rfl, rfl, by decide +kernel, rfl, by decide +kernel, by decide +kernel⟩
abbrev sCell : Stmt := top 32
theorem scCell : FnScope ["_law_cells", "_law_k", "_law_mixed", "_law_cell_here"] ["_law_cells", "_law_k"] (defScope sCell) := ⟨rfl, rfl, rfl, by decide +kernel, rfl, by decide +kernel, by decide +kernel⟩
abbrev sSrc : Stmt := top 33
theorem scSrc : FnScope ["_law_cell_here", "_law_great"] ["_law_cell_here"] (defScope sSrc) := ⟨rfl, rfl, rfl, by decide +kernel, rfl, by decide +kernel, by decide +kernel⟩
abbrev sDraw : Stmt := top 34
theorem scDraw : FnScope ["_law_source_here", "_law_many", "_law_first", "_law_turned", "_law_digit"] ["_law_source_here", "_law_many"] (defScope sDraw) := ⟨rfl, rfl, rfl, by decide +kernel, rfl, by decide +kernel, by decide +kernel⟩
abbrev sWho : Stmt := top 35
theorem scWho : FnScope ["_law_source_here", "_law_way", "_law_sign", "_law_parts"] ["_law_source_here"] (defScope sWho) := ⟨rfl, rfl, rfl, by decide +kernel, rfl, by decide +kernel, by decide +kernel⟩
abbrev sWord : Stmt := top 36
theorem scWord : FnScope ["_law_e", "_law_sorts", "_law_words"] ["_law_e"] (defScope sWord) := ⟨rfl, rfl, rfl, by decide +kernel, rfl, by decide +kernel, by decide +kernel⟩
abbrev sFields : Stmt := top 37
theorem scFields : FnScope ["_law_e", "_law_word_here"] ["_law_e", "_law_word_here"] (defScope sFields) := ⟨rfl, rfl, rfl, by decide +kernel, rfl, by decide +kernel, by decide +kernel⟩
abbrev sCaught : Stmt := top 38
theorem scCaught : FnScope ["_law_action", "_law_shown", "_law_e", "_law_word_here"] ["_law_action"] (defScope sCaught) := ⟨rfl, rfl, rfl, by decide +kernel, rfl, by decide +kernel, by decide +kernel⟩
abbrev sThing : Stmt := top 39
theorem scThing : FnScope ["_law_source_here", "_law_way", "_law_more"] ["_law_source_here"] (defScope sThing) := ⟨rfl, rfl, rfl, by decide +kernel, rfl, by decide +kernel, by decide +kernel⟩
abbrev sLWh : Stmt := top 40
theorem scLWh : FnScope ["_law_thing_here"] ["_law_thing_here"] (defScope sLWh) := ⟨rfl, rfl, rfl, by decide +kernel, rfl, by decide +kernel, by decide +kernel⟩
abbrev sMDue : Stmt := top 41
theorem scMDue : FnScope ["_law_upper", "_law_lower"] ["_law_upper", "_law_lower"] (defScope sMDue) := ⟨rfl, rfl, rfl, by decide +kernel, rfl, by decide +kernel, by decide +kernel⟩
abbrev sIDue : Stmt := top 42
theorem scIDue : FnScope ["_law_seen", "_law_due"] ["_law_seen", "_law_due"] (defScope sIDue) := ⟨rfl, rfl, rfl, by decide +kernel, rfl, by decide +kernel, by decide +kernel⟩
abbrev sODue : Stmt := top 43
theorem scODue : FnScope ["_law_by"] ["_law_by"] (defScope sODue) := ⟨rfl, rfl, rfl, by decide +kernel, rfl, by decide +kernel, by decide +kernel⟩
abbrev sPDue : Stmt := top 44
theorem scPDue : FnScope ["_law_base", "_law_degree"] ["_law_base", "_law_degree"] (defScope sPDue) := ⟨rfl, rfl, rfl, by decide +kernel, rfl, by decide +kernel, by decide +kernel⟩
abbrev sRight : Stmt := top 45
theorem scRight : FnScope ["_law_source_here", "_law_upper", "_law_lower", "_law_due", "_law_base", "_law_by", "_law_degree", "_law_line"] ["_law_source_here"] (defScope sRight) := ⟨rfl, rfl, rfl, by decide +kernel, rfl, by decide +kernel, by decide +kernel⟩
abbrev sLaw : Stmt := top 46
theorem scLaw : FnScope ["_law_cells", "_law_k", "_law_source_here", "_law_turn"] ["_law_cells"] (defScope sLaw) := ⟨rfl, rfl, rfl, by decide +kernel, rfl, by decide +kernel, by decide +kernel⟩
theorem scIni : FnScope ["self", "top", "bottom", "common"] ["self", "top", "bottom"] (defScope sIni) := ⟨rfl, rfl, rfl, by decide +kernel, rfl, by decide +kernel, by decide +kernel⟩
theorem scRd : FnScope ["cls", "text", "top", "stroke", "bottom"] ["cls", "text"] (defScope sRd) := ⟨rfl, rfl, rfl, by decide +kernel, rfl, by decide +kernel, by decide +kernel⟩
/-- the text's facts -/
structure Tx (K : PySem.W.Frag) (mg : Str → Option Value) (C : Addr) where
  rc : RC K mg C
  kI : PySem.W.kitOne K (.ref C) (.type "int") = some false
  len : mg "len" = none
  dvm : mg "divmod" = none
  max_ : mg "max" = none
  min_ : mg "min" = none
  all_ : mg "all" = none
  tkP : Tok
  mp : mg "MOST_POWER" = some (.int 20 tkP)
  aIni : Addr
  dIni : FuncData
  dv : List Value
  vv : Vals [V.int 1] dv
  FIni : FunD K "__init__" "Ratio.__init__" (defArgs sIni) (defBody sIni) (defScope sIni) [V.int 1] [] aIni dIni
  M : Mk K C aIni
  b2 : Binds K dIni ["self", "top", "bottom"] []
  b1 : Binds K dIni ["self", "top", "bottom"] dv
  hNe : Ne0 K C
  sf : PySem.W.selfFirst K C = true
  sIC : NoInt K C
  sCI : PySem.W.subIn K (.ref C) (.type "int") = some false
  hRp : PySem.W.findIn K (.ref C) "__rpow__" = some none
  r_floordiv : ∃ rc, PySem.W.findIn K (.ref C) "__rfloordiv__" = some rc ∧ (rc = none ∨ ∃ g : Addr, rc = some (.ref g))
  r_mod : ∃ rc, PySem.W.findIn K (.ref C) "__rmod__" = some rc ∧ (rc = none ∨ ∃ g : Addr, rc = some (.ref g))
  t_add : ∃ fo, PySem.W.findIn K (.type "int") "__add__" = some fo
  t_radd : ∃ fo, PySem.W.findIn K (.type "int") "__radd__" = some fo
  t_sub : ∃ fo, PySem.W.findIn K (.type "int") "__sub__" = some fo
  t_rsub : ∃ fo, PySem.W.findIn K (.type "int") "__rsub__" = some fo
  t_mul : ∃ fo, PySem.W.findIn K (.type "int") "__mul__" = some fo
  t_rmul : ∃ fo, PySem.W.findIn K (.type "int") "__rmul__" = some fo
  t_floordiv : ∃ fo, PySem.W.findIn K (.type "int") "__floordiv__" = some fo
  t_rfloordiv : ∃ fo, PySem.W.findIn K (.type "int") "__rfloordiv__" = some fo
  t_mod : ∃ fo, PySem.W.findIn K (.type "int") "__mod__" = some fo
  t_rmod : ∃ fo, PySem.W.findIn K (.type "int") "__rmod__" = some fo
  t_pow : ∃ fo, PySem.W.findIn K (.type "int") "__pow__" = some fo
  t_rpow : ∃ fo, PySem.W.findIn K (.type "int") "__rpow__" = some fo
  aIsW : Addr
  dIsW : FuncData
  FIsW : Fun K "is_whole" "is_whole" sIsW aIsW dIsW
  bIsW : Binds K dIsW ["value"] []
  gIsW : mg "is_whole" = some (.ref aIsW)
  aIsN : Addr
  dIsN : FuncData
  FIsN : Fun K "is_number" "is_number" sIsN aIsN dIsN
  bIsN : Binds K dIsN ["value"] []
  gIsN : mg "is_number" = some (.ref aIsN)
  aAs : Addr
  dAs : FuncData
  FAs : Fun K "as_ratio" "as_ratio" sAs aAs dAs
  bAs : Binds K dAs ["number"] []
  gAs : mg "as_ratio" = some (.ref aAs)
  aSum : Addr
  dSum : FuncData
  FSum : Fun K "_ratio_sum" "_ratio_sum" sSum aSum dSum
  bSum : Binds K dSum ["left", "right"] []
  gSum : mg "_ratio_sum" = some (.ref aSum)
  aProd : Addr
  dProd : FuncData
  FProd : Fun K "_product" "_product" sProd aProd dProd
  bProd : Binds K dProd ["left", "right"] []
  gProd : mg "_product" = some (.ref aProd)
  aInv : Addr
  dInv : FuncData
  FInv : Fun K "_inverse" "_inverse" sInv aInv dInv
  bInv : Binds K dInv ["ratio"] []
  gInv : mg "_inverse" = some (.ref aInv)
  aFlo : Addr
  dFlo : FuncData
  FFlo : Fun K "_floor" "_floor" sFlo aFlo dFlo
  bFlo : Binds K dFlo ["left", "right"] []
  gFlo : mg "_floor" = some (.ref aFlo)
  aRem : Addr
  dRem : FuncData
  FRem : Fun K "_remainder" "_remainder" sRem aRem dRem
  bRem : Binds K dRem ["left", "right"] []
  gRem : mg "_remainder" = some (.ref aRem)
  aWPo : Addr
  dWPo : FuncData
  FWPo : Fun K "_whole_power" "_whole_power" sWPo aWPo dWPo
  bWPo : Binds K dWPo ["base", "times"] []
  gWPo : mg "_whole_power" = some (.ref aWPo)
  aIsT : Addr
  dIsT : FuncData
  FIsT : Fun K "_is_text" "_is_text" sIsT aIsT dIsT
  bIsT : Binds K dIsT ["text"] []
  gIsT : mg "_is_text" = some (.ref aIsT)
  aIsP : Addr
  dIsP : FuncData
  FIsP : Fun K "_is_positive_text" "_is_positive_text" sIsP aIsP dIsP
  bIsP : Binds K dIsP ["text"] []
  gIsP : mg "_is_positive_text" = some (.ref aIsP)
  aTop : Addr
  dTop : FuncData
  FTop : Fun K "top" "Ratio.top" sTop aTop dTop
  bTop : Binds K dTop ["self"] []
  pTop : Addr
  PTop : PropOf K C "top" pTop aTop
  aBot : Addr
  dBot : FuncData
  FBot : Fun K "bottom" "Ratio.bottom" sBot aBot dBot
  bBot : Binds K dBot ["self"] []
  pBot : Addr
  PBot : PropOf K C "bottom" pBot aBot
  aAdd : Addr
  dAdd : FuncData
  FAdd : Fun K "__add__" "Ratio.__add__" sAdd aAdd dAdd
  bAdd : Binds K dAdd ["self", "other"] []
  hAdd : Has K C "__add__" aAdd
  aRadd : Addr
  dRadd : FuncData
  FRadd : Fun K "__radd__" "Ratio.__radd__" sRadd aRadd dRadd
  bRadd : Binds K dRadd ["self", "other"] []
  hRadd : Has K C "__radd__" aRadd
  aSub : Addr
  dSub : FuncData
  FSub : Fun K "__sub__" "Ratio.__sub__" sSub aSub dSub
  bSub : Binds K dSub ["self", "other"] []
  hSub : Has K C "__sub__" aSub
  aRsub : Addr
  dRsub : FuncData
  FRsub : Fun K "__rsub__" "Ratio.__rsub__" sRsub aRsub dRsub
  bRsub : Binds K dRsub ["self", "other"] []
  hRsub : Has K C "__rsub__" aRsub
  aMul : Addr
  dMul : FuncData
  FMul : Fun K "__mul__" "Ratio.__mul__" sMul aMul dMul
  bMul : Binds K dMul ["self", "other"] []
  hMul : Has K C "__mul__" aMul
  aRmul : Addr
  dRmul : FuncData
  FRmul : Fun K "__rmul__" "Ratio.__rmul__" sRmul aRmul dRmul
  bRmul : Binds K dRmul ["self", "other"] []
  hRmul : Has K C "__rmul__" aRmul
  aFDi : Addr
  dFDi : FuncData
  FFDi : Fun K "__floordiv__" "Ratio.__floordiv__" sFDi aFDi dFDi
  bFDi : Binds K dFDi ["self", "other"] []
  hFDi : Has K C "__floordiv__" aFDi
  aRFDi : Addr
  dRFDi : FuncData
  FRFDi : Fun K "__rfloordiv__" "Ratio.__rfloordiv__" sRFDi aRFDi dRFDi
  bRFDi : Binds K dRFDi ["self", "other"] []
  hRFDi : Has K C "__rfloordiv__" aRFDi
  aMod : Addr
  dMod : FuncData
  FMod : Fun K "__mod__" "Ratio.__mod__" sMod aMod dMod
  bMod : Binds K dMod ["self", "other"] []
  hMod : Has K C "__mod__" aMod
  aRMod : Addr
  dRMod : FuncData
  FRMod : Fun K "__rmod__" "Ratio.__rmod__" sRMod aRMod dRMod
  bRMod : Binds K dRMod ["self", "other"] []
  hRMod : Has K C "__rmod__" aRMod
  aPow : Addr
  dPow : FuncData
  FPow : Fun K "__pow__" "Ratio.__pow__" sPow aPow dPow
  bPow : Binds K dPow ["self", "other"] []
  hPow : Has K C "__pow__" aPow
  aNeg : Addr
  dNeg : FuncData
  FNeg : Fun K "__neg__" "Ratio.__neg__" sNeg aNeg dNeg
  bNeg : Binds K dNeg ["self"] []
  hNeg : Has K C "__neg__" aNeg
  aAbs : Addr
  dAbs : FuncData
  FAbs : Fun K "__abs__" "Ratio.__abs__" sAbs aAbs dAbs
  bAbs : Binds K dAbs ["self"] []
  hAbs : Has K C "__abs__" aAbs
  aBool : Addr
  dBool : FuncData
  FBool : Fun K "__bool__" "Ratio.__bool__" sBool aBool dBool
  bBool : Binds K dBool ["self"] []
  hBool : Has K C "__bool__" aBool
  aEq : Addr
  dEq : FuncData
  FEq : Fun K "__eq__" "Ratio.__eq__" sEq aEq dEq
  bEq : Binds K dEq ["self", "other"] []
  hEq : Has K C "__eq__" aEq
  aStr : Addr
  dStr : FuncData
  FStr : Fun K "__str__" "Ratio.__str__" sStr aStr dStr
  bStr : Binds K dStr ["self"] []
  hStr : Has K C "__str__" aStr
  aRepr : Addr
  dRepr : FuncData
  FRepr : Fun K "__repr__" "Ratio.__repr__" sRepr aRepr dRepr
  bRepr : Binds K dRepr ["self"] []
  hRepr : Has K C "__repr__" aRepr
  aOver : Addr
  dOver : FuncData
  FOver : Fun K "over" "Ratio.over" sOver aOver dOver
  bOver : Binds K dOver ["self", "other"] []
  hOver : Has K C "over" aOver
  aPower : Addr
  dPower : FuncData
  FPower : Fun K "power" "Ratio.power" sPower aPower dPower
  bPower : Binds K dPower ["self", "exponent"] []
  hPower : Has K C "power" aPower
  aCell : Addr
  dCell : FuncData
  FCell : Fun K "_law_cell" "_law_cell" sCell aCell dCell
  bCell : Binds K dCell ["_law_cells", "_law_k"] []
  gCell : mg "_law_cell" = some (.ref aCell)
  aSrc : Addr
  dSrc : FuncData
  FSrc : Fun K "_law_source" "_law_source" sSrc aSrc dSrc
  bSrc : Binds K dSrc ["_law_cell_here"] []
  gSrc : mg "_law_source" = some (.ref aSrc)
  aDraw : Addr
  dDraw : FuncData
  FDraw : Fun K "_law_draw" "_law_draw" sDraw aDraw dDraw
  bDraw : Binds K dDraw ["_law_source_here", "_law_many"] []
  gDraw : mg "_law_draw" = some (.ref aDraw)
  aWho : Addr
  dWho : FuncData
  FWho : Fun K "_law_whole" "_law_whole" sWho aWho dWho
  bWho : Binds K dWho ["_law_source_here"] []
  gWho : mg "_law_whole" = some (.ref aWho)
  aWord : Addr
  dWord : FuncData
  FWord : Fun K "_law_word" "_law_word" sWord aWord dWord
  bWord : Binds K dWord ["_law_e"] []
  gWord : mg "_law_word" = some (.ref aWord)
  aFields : Addr
  dFields : FuncData
  FFields : Fun K "_law_fields" "_law_fields" sFields aFields dFields
  bFields : Binds K dFields ["_law_e", "_law_word_here"] []
  gFields : mg "_law_fields" = some (.ref aFields)
  aCaught : Addr
  dCaught : FuncData
  FCaught : Fun K "_law_caught" "_law_caught" sCaught aCaught dCaught
  bCaught : Binds K dCaught ["_law_action"] []
  gCaught : mg "_law_caught" = some (.ref aCaught)
  aThing : Addr
  dThing : FuncData
  FThing : Fun K "_law_thing" "_law_thing" sThing aThing dThing
  bThing : Binds K dThing ["_law_source_here"] []
  gThing : mg "_law_thing" = some (.ref aThing)
  aLWh : Addr
  dLWh : FuncData
  FLWh : Fun K "_law_is_whole" "_law_is_whole" sLWh aLWh dLWh
  bLWh : Binds K dLWh ["_law_thing_here"] []
  gLWh : mg "_law_is_whole" = some (.ref aLWh)
  aMDue : Addr
  dMDue : FuncData
  FMDue : Fun K "_law_made_due" "_law_made_due" sMDue aMDue dMDue
  bMDue : Binds K dMDue ["_law_upper", "_law_lower"] []
  gMDue : mg "_law_made_due" = some (.ref aMDue)
  aIDue : Addr
  dIDue : FuncData
  FIDue : Fun K "_law_is_due" "_law_is_due" sIDue aIDue dIDue
  bIDue : Binds K dIDue ["_law_seen", "_law_due"] []
  gIDue : mg "_law_is_due" = some (.ref aIDue)
  aODue : Addr
  dODue : FuncData
  FODue : Fun K "_law_over_due" "_law_over_due" sODue aODue dODue
  bODue : Binds K dODue ["_law_by"] []
  gODue : mg "_law_over_due" = some (.ref aODue)
  aPDue : Addr
  dPDue : FuncData
  FPDue : Fun K "_law_power_due" "_law_power_due" sPDue aPDue dPDue
  bPDue : Binds K dPDue ["_law_base", "_law_degree"] []
  gPDue : mg "_law_power_due" = some (.ref aPDue)
  aRight : Addr
  dRight : FuncData
  FRight : Fun K "_law_right" "_law_right" sRight aRight dRight
  bRight : Binds K dRight ["_law_source_here"] []
  gRight : mg "_law_right" = some (.ref aRight)
  aLaw : Addr
  dLaw : FuncData
  FLaw : Fun K "law" "law" sLaw aLaw dLaw
  bLaw : Binds K dLaw ["_law_cells"] []
  gLaw : mg "law" = some (.ref aLaw)
  aRd : Addr
  dRd : FuncData
  FRd : Fun K "read" "Ratio.read" sRd aRd dRd
  bRd : Binds K dRd ["cls", "text"] []
  pRd : Addr
  mc : Value
  rRd : ClX.CRead K C mc
  cRd : ClX.CMet K C mc "read" pRd aRd
end T06

namespace T06
open PySem PySem.Spec PyProof.Rows L2 SF SQ
def fx0 (K : PySem.W.Frag) : List Bool := [decide (PySem.W.nsIn K mainGlobals "Ratio" = some (some (.ref (He.ga K "Ratio")))),
  decide (PySem.W.nsIn K mainGlobals "is_whole" = some (some (.ref (He.ga K "is_whole")))),
  decide (PySem.W.nsIn K mainGlobals "is_number" = some (some (.ref (He.ga K "is_number")))),
  decide (PySem.W.nsIn K mainGlobals "as_ratio" = some (some (.ref (He.ga K "as_ratio")))),
  decide (PySem.W.nsIn K mainGlobals "_ratio_sum" = some (some (.ref (He.ga K "_ratio_sum")))),
  decide (PySem.W.nsIn K mainGlobals "_product" = some (some (.ref (He.ga K "_product")))),
  decide (PySem.W.nsIn K mainGlobals "_inverse" = some (some (.ref (He.ga K "_inverse")))),
  decide (PySem.W.nsIn K mainGlobals "_floor" = some (some (.ref (He.ga K "_floor")))),
  decide (PySem.W.nsIn K mainGlobals "_remainder" = some (some (.ref (He.ga K "_remainder")))),
  decide (PySem.W.nsIn K mainGlobals "_whole_power" = some (some (.ref (He.ga K "_whole_power")))),
  decide (PySem.W.nsIn K mainGlobals "_is_text" = some (some (.ref (He.ga K "_is_text")))),
  decide (PySem.W.nsIn K mainGlobals "_is_positive_text" = some (some (.ref (He.ga K "_is_positive_text")))),
  decide (PySem.W.findIn K (.ref (He.ga K "Ratio")) "top" = some (some (.ref (He.ma K (He.ga K "Ratio") "top")))),
  decide (PySem.W.specialIn K (.ref (He.ma K (He.ga K "Ratio") "top")) "__get__" = some (some (.builtin "property.__get__"))),
  decide (PySem.W.takesIn K (.ref (He.ma K (He.ga K "Ratio") "top")) = some true),
  decide (PySem.W.recIn K (He.ma K (He.ga K "Ratio") "top") "property" = some (.ref (SJ.recF K (He.ma K (He.ga K "Ratio") "top") "property") :: SJ.recR K (He.ma K (He.ga K "Ratio") "top") "property")),
  decide (PySem.W.findIn K (.ref (He.ga K "Ratio")) "bottom" = some (some (.ref (He.ma K (He.ga K "Ratio") "bottom")))),
  decide (PySem.W.specialIn K (.ref (He.ma K (He.ga K "Ratio") "bottom")) "__get__" = some (some (.builtin "property.__get__"))),
  decide (PySem.W.takesIn K (.ref (He.ma K (He.ga K "Ratio") "bottom")) = some true),
  decide (PySem.W.recIn K (He.ma K (He.ga K "Ratio") "bottom") "property" = some (.ref (SJ.recF K (He.ma K (He.ga K "Ratio") "bottom") "property") :: SJ.recR K (He.ma K (He.ga K "Ratio") "bottom") "property"))]
def fx1 (K : PySem.W.Frag) : List Bool := [decide (PySem.W.findIn K (.ref (He.ga K "Ratio")) "__add__" = some (some (.ref (He.ma K (He.ga K "Ratio") "__add__")))),
  PySem.W.isFn K (.ref (He.ma K (He.ga K "Ratio") "__add__")),
  decide (PySem.W.findIn K (.ref (He.ga K "Ratio")) "__radd__" = some (some (.ref (He.ma K (He.ga K "Ratio") "__radd__")))),
  PySem.W.isFn K (.ref (He.ma K (He.ga K "Ratio") "__radd__")),
  decide (PySem.W.findIn K (.ref (He.ga K "Ratio")) "__sub__" = some (some (.ref (He.ma K (He.ga K "Ratio") "__sub__")))),
  PySem.W.isFn K (.ref (He.ma K (He.ga K "Ratio") "__sub__")),
  decide (PySem.W.findIn K (.ref (He.ga K "Ratio")) "__rsub__" = some (some (.ref (He.ma K (He.ga K "Ratio") "__rsub__")))),
  PySem.W.isFn K (.ref (He.ma K (He.ga K "Ratio") "__rsub__")),
  decide (PySem.W.findIn K (.ref (He.ga K "Ratio")) "__mul__" = some (some (.ref (He.ma K (He.ga K "Ratio") "__mul__")))),
  PySem.W.isFn K (.ref (He.ma K (He.ga K "Ratio") "__mul__")),
  decide (PySem.W.findIn K (.ref (He.ga K "Ratio")) "__rmul__" = some (some (.ref (He.ma K (He.ga K "Ratio") "__rmul__")))),
  PySem.W.isFn K (.ref (He.ma K (He.ga K "Ratio") "__rmul__")),
  decide (PySem.W.findIn K (.ref (He.ga K "Ratio")) "__floordiv__" = some (some (.ref (He.ma K (He.ga K "Ratio") "__floordiv__")))),
  PySem.W.isFn K (.ref (He.ma K (He.ga K "Ratio") "__floordiv__")),
  decide (PySem.W.findIn K (.ref (He.ga K "Ratio")) "__rfloordiv__" = some (some (.ref (He.ma K (He.ga K "Ratio") "__rfloordiv__")))),
  PySem.W.isFn K (.ref (He.ma K (He.ga K "Ratio") "__rfloordiv__")),
  decide (PySem.W.findIn K (.ref (He.ga K "Ratio")) "__mod__" = some (some (.ref (He.ma K (He.ga K "Ratio") "__mod__")))),
  PySem.W.isFn K (.ref (He.ma K (He.ga K "Ratio") "__mod__")),
  decide (PySem.W.findIn K (.ref (He.ga K "Ratio")) "__rmod__" = some (some (.ref (He.ma K (He.ga K "Ratio") "__rmod__")))),
  PySem.W.isFn K (.ref (He.ma K (He.ga K "Ratio") "__rmod__"))]
def fx2 (K : PySem.W.Frag) : List Bool := [decide (PySem.W.findIn K (.ref (He.ga K "Ratio")) "__pow__" = some (some (.ref (He.ma K (He.ga K "Ratio") "__pow__")))),
  PySem.W.isFn K (.ref (He.ma K (He.ga K "Ratio") "__pow__")),
  decide (PySem.W.findIn K (.ref (He.ga K "Ratio")) "__neg__" = some (some (.ref (He.ma K (He.ga K "Ratio") "__neg__")))),
  PySem.W.isFn K (.ref (He.ma K (He.ga K "Ratio") "__neg__")),
  decide (PySem.W.findIn K (.ref (He.ga K "Ratio")) "__abs__" = some (some (.ref (He.ma K (He.ga K "Ratio") "__abs__")))),
  PySem.W.isFn K (.ref (He.ma K (He.ga K "Ratio") "__abs__")),
  decide (PySem.W.findIn K (.ref (He.ga K "Ratio")) "__bool__" = some (some (.ref (He.ma K (He.ga K "Ratio") "__bool__")))),
  PySem.W.isFn K (.ref (He.ma K (He.ga K "Ratio") "__bool__")),
  decide (PySem.W.findIn K (.ref (He.ga K "Ratio")) "__eq__" = some (some (.ref (He.ma K (He.ga K "Ratio") "__eq__")))),
  PySem.W.isFn K (.ref (He.ma K (He.ga K "Ratio") "__eq__")),
  decide (PySem.W.findIn K (.ref (He.ga K "Ratio")) "__str__" = some (some (.ref (He.ma K (He.ga K "Ratio") "__str__")))),
  PySem.W.isFn K (.ref (He.ma K (He.ga K "Ratio") "__str__")),
  decide (PySem.W.findIn K (.ref (He.ga K "Ratio")) "__repr__" = some (some (.ref (He.ma K (He.ga K "Ratio") "__repr__")))),
  PySem.W.isFn K (.ref (He.ma K (He.ga K "Ratio") "__repr__")),
  decide (PySem.W.findIn K (.ref (He.ga K "Ratio")) "over" = some (some (.ref (He.ma K (He.ga K "Ratio") "over")))),
  PySem.W.isFn K (.ref (He.ma K (He.ga K "Ratio") "over")),
  decide (PySem.W.findIn K (.ref (He.ga K "Ratio")) "power" = some (some (.ref (He.ma K (He.ga K "Ratio") "power")))),
  PySem.W.isFn K (.ref (He.ma K (He.ga K "Ratio") "power")),
  decide (PySem.W.nsIn K mainGlobals "_law_cell" = some (some (.ref (He.ga K "_law_cell")))),
  decide (PySem.W.nsIn K mainGlobals "_law_source" = some (some (.ref (He.ga K "_law_source"))))]
def fx3 (K : PySem.W.Frag) : List Bool := [decide (PySem.W.nsIn K mainGlobals "_law_draw" = some (some (.ref (He.ga K "_law_draw")))),
  decide (PySem.W.nsIn K mainGlobals "_law_whole" = some (some (.ref (He.ga K "_law_whole")))),
  decide (PySem.W.nsIn K mainGlobals "_law_word" = some (some (.ref (He.ga K "_law_word")))),
  decide (PySem.W.nsIn K mainGlobals "_law_fields" = some (some (.ref (He.ga K "_law_fields")))),
  decide (PySem.W.nsIn K mainGlobals "_law_caught" = some (some (.ref (He.ga K "_law_caught")))),
  decide (PySem.W.nsIn K mainGlobals "_law_thing" = some (some (.ref (He.ga K "_law_thing")))),
  decide (PySem.W.nsIn K mainGlobals "_law_is_whole" = some (some (.ref (He.ga K "_law_is_whole")))),
  decide (PySem.W.nsIn K mainGlobals "_law_made_due" = some (some (.ref (He.ga K "_law_made_due")))),
  decide (PySem.W.nsIn K mainGlobals "_law_is_due" = some (some (.ref (He.ga K "_law_is_due")))),
  decide (PySem.W.nsIn K mainGlobals "_law_over_due" = some (some (.ref (He.ga K "_law_over_due")))),
  decide (PySem.W.nsIn K mainGlobals "_law_power_due" = some (some (.ref (He.ga K "_law_power_due")))),
  decide (PySem.W.nsIn K mainGlobals "_law_right" = some (some (.ref (He.ga K "_law_right")))),
  decide (PySem.W.nsIn K mainGlobals "law" = some (some (.ref (He.ga K "law")))),
  SJ.clsB K (He.ga K "Ratio") "read",
  decide (PySem.W.recIn K (SJ.clsP K (He.ga K "Ratio") "read") "classmethod" = some (.ref (SJ.recF K (SJ.clsP K (He.ga K "Ratio") "read") "classmethod") :: SJ.recR K (SJ.clsP K (He.ga K "Ratio") "read") "classmethod")),
  PySem.W.fnIn K (SJ.recF K (SJ.clsP K (He.ga K "Ratio") "read") "classmethod"),
  PySem.W.readsIn K (He.ga K "Ratio") (.type "type"),
  decide (PySem.W.specialIn K (.ref (He.ga K "Ratio")) "__getattribute__" = some (some (.builtin "type.__getattribute__"))),
  decide (PySem.W.findIn K (.ref (He.ga K "Ratio")) "__init__" = some (some (.ref (He.ma K (He.ga K "Ratio") "__init__")))),
  PySem.W.isFn K (.ref (He.ma K (He.ga K "Ratio") "__init__"))]
def fx4 (K : PySem.W.Frag) : List Bool := [decide (PySem.W.findIn K (.ref (He.ga K "Ratio")) "__ne__" = some (some (.builtin "object.__ne__"))),
  PySem.W.makesIn K (He.ga K "Ratio"),
  PySem.W.keepIn K (.ref (He.ga K "Ratio")),
  PySem.W.plainGet K (He.ga K "Ratio") Str.empty,
  PySem.W.hasDictIn K (He.ga K "Ratio"),
  PySem.W.plainOver K (He.ga K "Ratio"),
  decide (PySem.W.findIn K (.ref (He.ga K "Ratio")) "__setattr__" = some (some (.builtin "object.__setattr__"))),
  decide (PySem.W.findIn K (.ref (He.ga K "Ratio")) "_top" = some none),
  decide (PySem.W.findIn K (.ref (He.ga K "Ratio")) "_bottom" = some none),
  decide (PySem.W.kitOne K (.type "int") (.ref (He.ga K "Ratio")) = some false),
  decide (PySem.W.kitOne K (.type "bool") (.ref (He.ga K "Ratio")) = some false),
  decide (PySem.W.kitOne K (.type "str") (.ref (He.ga K "Ratio")) = some false),
  decide (PySem.W.kitOne K (.type "NoneType") (.ref (He.ga K "Ratio")) = some false),
  decide (PySem.W.kitOne K (.type "list") (.ref (He.ga K "Ratio")) = some false),
  decide (PySem.W.kitOne K (.type "tuple") (.ref (He.ga K "Ratio")) = some false),
  decide (PySem.W.kitOne K (.type "dict") (.ref (He.ga K "Ratio")) = some false),
  decide (PySem.W.kitOne K (.ref (He.ga K "Ratio")) (.ref (He.ga K "Ratio")) = some true),
  decide (PySem.W.kitOne K (.ref (He.ga K "Ratio")) (.type "int") = some false),
  decide (PySem.W.findIn K (.ref (He.ga K "Ratio")) "__class__" = some (some (.builtin "object.__class__"))),
  decide (PySem.W.specialIn K (.builtin "object.__class__") "__get__" = some (some (.builtin "getset_descriptor.__get__")))]
def fx5 (K : PySem.W.Frag) : List Bool := [decide (PySem.W.takesIn K (.builtin "object.__class__") = some true),
  decide (PySem.W.mroIn K (He.ga K "Ratio") (.type "object") = some true),
  decide (PySem.W.nsIn K mainGlobals "gcd" = some (some (.builtin "math.gcd"))),
  SJ.isInt K "MOST_POWER" 20,
  PySem.W.selfFirst K (He.ga K "Ratio"),
  decide (PySem.W.subIn K (.type "int") (.ref (He.ga K "Ratio")) = some false),
  decide (PySem.W.subIn K (.ref (He.ga K "Ratio")) (.type "int") = some false),
  decide (PySem.W.findIn K (.ref (He.ga K "Ratio")) "__rpow__" = some none),
  decide (PySem.W.findIn K (.ref (He.ga K "Ratio")) "__rfloordiv__" = some (some (.ref (He.ma K (He.ga K "Ratio") "__rfloordiv__")))),
  decide (PySem.W.findIn K (.ref (He.ga K "Ratio")) "__rmod__" = some (some (.ref (He.ma K (He.ga K "Ratio") "__rmod__")))),
  (PySem.W.findIn K (.type "int") "__add__").isSome,
  (PySem.W.findIn K (.type "int") "__radd__").isSome,
  (PySem.W.findIn K (.type "int") "__sub__").isSome,
  (PySem.W.findIn K (.type "int") "__rsub__").isSome,
  (PySem.W.findIn K (.type "int") "__mul__").isSome,
  (PySem.W.findIn K (.type "int") "__rmul__").isSome,
  (PySem.W.findIn K (.type "int") "__floordiv__").isSome,
  (PySem.W.findIn K (.type "int") "__rfloordiv__").isSome,
  (PySem.W.findIn K (.type "int") "__mod__").isSome,
  (PySem.W.findIn K (.type "int") "__rmod__").isSome]
def fx6 (K : PySem.W.Frag) : List Bool := [(PySem.W.findIn K (.type "int") "__pow__").isSome,
  (PySem.W.findIn K (.type "int") "__rpow__").isSome,
  decide (PySem.W.nsIn K mainGlobals "len" = some none),
  decide (PySem.W.nsIn K mainGlobals "int" = some none),
  decide (PySem.W.nsIn K mainGlobals "abs" = some none),
  decide (PySem.W.nsIn K mainGlobals "divmod" = some none),
  decide (PySem.W.nsIn K mainGlobals "range" = some none),
  decide (PySem.W.nsIn K mainGlobals "max" = some none),
  decide (PySem.W.nsIn K mainGlobals "min" = some none),
  decide (PySem.W.nsIn K mainGlobals "all" = some none),
  decide (PySem.W.nsIn K mainGlobals "repr" = some none),
  decide (PySem.W.nsIn K mainGlobals "isinstance" = some none),
  decide (PySem.W.nsIn K mainGlobals "bool" = some none),
  decide (PySem.W.nsIn K mainGlobals "str" = some none),
  decide (PySem.W.nsIn K mainGlobals "InvalidNumber" = some (some (.ref (He.ga K "InvalidNumber")))),
  decide (PySem.W.nsIn K mainGlobals "InvalidText" = some (some (.ref (He.ga K "InvalidText")))),
  decide (PySem.W.nsIn K mainGlobals "InvalidCount" = some (some (.ref (He.ga K "InvalidCount")))),
  decide (PySem.W.nsIn K mainGlobals "InvalidName" = some (some (.ref (He.ga K "InvalidName")))),
  decide (PySem.W.nsIn K mainGlobals "InvalidTruth" = some (some (.ref (He.ga K "InvalidTruth")))),
  decide (PySem.W.nsIn K mainGlobals "InvalidEntries" = some (some (.ref (He.ga K "InvalidEntries"))))]
def fx7 (K : PySem.W.Frag) : List Bool := [decide (PySem.W.nsIn K mainGlobals "NotAFormula" = some (some (.ref (He.ga K "NotAFormula")))),
  decide (PySem.W.nsIn K mainGlobals "TextError" = some (some (.ref (He.ga K "TextError")))),
  decide (PySem.W.nsIn K mainGlobals "UnknownName" = some (some (.ref (He.ga K "UnknownName")))),
  decide (PySem.W.nsIn K mainGlobals "Clash" = some (some (.ref (He.ga K "Clash")))),
  decide (PySem.W.nsIn K mainGlobals "DividedByZero" = some (some (.ref (He.ga K "DividedByZero")))),
  decide (PySem.W.nsIn K mainGlobals "TooLarge" = some (some (.ref (He.ga K "TooLarge")))),
  decide (PySem.W.nsIn K mainGlobals "GivenError" = some (some (.ref (He.ga K "GivenError")))),
  decide (PySem.W.nsIn K mainGlobals "NameProblem" = some (some (.ref (He.ga K "NameProblem")))),
  decide (PySem.W.nsIn K mainGlobals "AnswerError" = some (some (.ref (He.ga K "AnswerError")))),
  SFT.cerrB K [He.ga K "InvalidNumber", He.ga K "InvalidText", He.ga K "InvalidCount", He.ga K "InvalidName", He.ga K "InvalidTruth", He.ga K "InvalidEntries", He.ga K "NotAFormula", He.ga K "TextError", He.ga K "UnknownName", He.ga K "Clash", He.ga K "DividedByZero", He.ga K "TooLarge"] [He.ga K "GivenError", He.ga K "NameProblem", He.ga K "AnswerError"],
  SQ.dzB K (He.ga K "DividedByZero"),
  SQ.ndB K,
  SFY.tabsB K [SJ.tabAt K (He.ga K "_law_right")] [SJ.codeAt K (He.ga K "_law_right")],
  SJ.refCode K (He.ga K "_law_right"),
  SQ.oexB K (He.ga K "InvalidNumber") (He.ma K (He.ga K "InvalidNumber") "__init__"),
  SQ.oexB K (He.ga K "InvalidText") (He.ma K (He.ga K "InvalidText") "__init__"),
  SQ.oexB K (He.ga K "InvalidCount") (He.ma K (He.ga K "InvalidCount") "__init__"),
  decide (PySem.W.kitOne K (.ref (He.ga K "Ratio")) (.type "str") = some false)]
def exJ (K : PySem.W.Frag) : Bool := (fx0 K).all id && ((fx1 K).all id && ((fx2 K).all id && ((fx3 K).all id && ((fx4 K).all id && ((fx5 K).all id && ((fx6 K).all id && ((fx7 K).all id)))))))
def dj0 : SJ.DJ := ⟨fun K => (He.ga K "is_whole"), "is_whole", "is_whole", defArgs sIsW, defBody sIsW, defScope sIsW, []⟩
def dj1 : SJ.DJ := ⟨fun K => (He.ga K "is_number"), "is_number", "is_number", defArgs sIsN, defBody sIsN, defScope sIsN, []⟩
def dj2 : SJ.DJ := ⟨fun K => (He.ga K "as_ratio"), "as_ratio", "as_ratio", defArgs sAs, defBody sAs, defScope sAs, []⟩
def dj3 : SJ.DJ := ⟨fun K => (He.ga K "_ratio_sum"), "_ratio_sum", "_ratio_sum", defArgs sSum, defBody sSum, defScope sSum, []⟩
def dj4 : SJ.DJ := ⟨fun K => (He.ga K "_product"), "_product", "_product", defArgs sProd, defBody sProd, defScope sProd, []⟩
def dj5 : SJ.DJ := ⟨fun K => (He.ga K "_inverse"), "_inverse", "_inverse", defArgs sInv, defBody sInv, defScope sInv, []⟩
def dj6 : SJ.DJ := ⟨fun K => (He.ga K "_floor"), "_floor", "_floor", defArgs sFlo, defBody sFlo, defScope sFlo, []⟩
def dj7 : SJ.DJ := ⟨fun K => (He.ga K "_remainder"), "_remainder", "_remainder", defArgs sRem, defBody sRem, defScope sRem, []⟩
def dj8 : SJ.DJ := ⟨fun K => (He.ga K "_whole_power"), "_whole_power", "_whole_power", defArgs sWPo, defBody sWPo, defScope sWPo, []⟩
def dj9 : SJ.DJ := ⟨fun K => (He.ga K "_is_text"), "_is_text", "_is_text", defArgs sIsT, defBody sIsT, defScope sIsT, []⟩
def dj10 : SJ.DJ := ⟨fun K => (He.ga K "_is_positive_text"), "_is_positive_text", "_is_positive_text", defArgs sIsP, defBody sIsP, defScope sIsP, []⟩
def dj11 : SJ.DJ := ⟨fun K => (SJ.recF K (He.ma K (He.ga K "Ratio") "top") "property"), "top", "Ratio.top", defArgs sTop, defBody sTop, defScope sTop, []⟩
def dj12 : SJ.DJ := ⟨fun K => (SJ.recF K (He.ma K (He.ga K "Ratio") "bottom") "property"), "bottom", "Ratio.bottom", defArgs sBot, defBody sBot, defScope sBot, []⟩
def dj13 : SJ.DJ := ⟨fun K => (He.ma K (He.ga K "Ratio") "__add__"), "__add__", "Ratio.__add__", defArgs sAdd, defBody sAdd, defScope sAdd, []⟩
def dj14 : SJ.DJ := ⟨fun K => (He.ma K (He.ga K "Ratio") "__radd__"), "__radd__", "Ratio.__radd__", defArgs sRadd, defBody sRadd, defScope sRadd, []⟩
def dj15 : SJ.DJ := ⟨fun K => (He.ma K (He.ga K "Ratio") "__sub__"), "__sub__", "Ratio.__sub__", defArgs sSub, defBody sSub, defScope sSub, []⟩
def dj16 : SJ.DJ := ⟨fun K => (He.ma K (He.ga K "Ratio") "__rsub__"), "__rsub__", "Ratio.__rsub__", defArgs sRsub, defBody sRsub, defScope sRsub, []⟩
def dj17 : SJ.DJ := ⟨fun K => (He.ma K (He.ga K "Ratio") "__mul__"), "__mul__", "Ratio.__mul__", defArgs sMul, defBody sMul, defScope sMul, []⟩
def dj18 : SJ.DJ := ⟨fun K => (He.ma K (He.ga K "Ratio") "__rmul__"), "__rmul__", "Ratio.__rmul__", defArgs sRmul, defBody sRmul, defScope sRmul, []⟩
def dj19 : SJ.DJ := ⟨fun K => (He.ma K (He.ga K "Ratio") "__floordiv__"), "__floordiv__", "Ratio.__floordiv__", defArgs sFDi, defBody sFDi, defScope sFDi, []⟩
def dj20 : SJ.DJ := ⟨fun K => (He.ma K (He.ga K "Ratio") "__rfloordiv__"), "__rfloordiv__", "Ratio.__rfloordiv__", defArgs sRFDi, defBody sRFDi, defScope sRFDi, []⟩
def dj21 : SJ.DJ := ⟨fun K => (He.ma K (He.ga K "Ratio") "__mod__"), "__mod__", "Ratio.__mod__", defArgs sMod, defBody sMod, defScope sMod, []⟩
def dj22 : SJ.DJ := ⟨fun K => (He.ma K (He.ga K "Ratio") "__rmod__"), "__rmod__", "Ratio.__rmod__", defArgs sRMod, defBody sRMod, defScope sRMod, []⟩
def dj23 : SJ.DJ := ⟨fun K => (He.ma K (He.ga K "Ratio") "__pow__"), "__pow__", "Ratio.__pow__", defArgs sPow, defBody sPow, defScope sPow, []⟩
def dj24 : SJ.DJ := ⟨fun K => (He.ma K (He.ga K "Ratio") "__neg__"), "__neg__", "Ratio.__neg__", defArgs sNeg, defBody sNeg, defScope sNeg, []⟩
def dj25 : SJ.DJ := ⟨fun K => (He.ma K (He.ga K "Ratio") "__abs__"), "__abs__", "Ratio.__abs__", defArgs sAbs, defBody sAbs, defScope sAbs, []⟩
def dj26 : SJ.DJ := ⟨fun K => (He.ma K (He.ga K "Ratio") "__bool__"), "__bool__", "Ratio.__bool__", defArgs sBool, defBody sBool, defScope sBool, []⟩
def dj27 : SJ.DJ := ⟨fun K => (He.ma K (He.ga K "Ratio") "__eq__"), "__eq__", "Ratio.__eq__", defArgs sEq, defBody sEq, defScope sEq, []⟩
def dj28 : SJ.DJ := ⟨fun K => (He.ma K (He.ga K "Ratio") "__str__"), "__str__", "Ratio.__str__", defArgs sStr, defBody sStr, defScope sStr, []⟩
def dj29 : SJ.DJ := ⟨fun K => (He.ma K (He.ga K "Ratio") "__repr__"), "__repr__", "Ratio.__repr__", defArgs sRepr, defBody sRepr, defScope sRepr, []⟩
def dj30 : SJ.DJ := ⟨fun K => (He.ma K (He.ga K "Ratio") "over"), "over", "Ratio.over", defArgs sOver, defBody sOver, defScope sOver, []⟩
def dj31 : SJ.DJ := ⟨fun K => (He.ma K (He.ga K "Ratio") "power"), "power", "Ratio.power", defArgs sPower, defBody sPower, defScope sPower, []⟩
def dj32 : SJ.DJ := ⟨fun K => (He.ga K "_law_cell"), "_law_cell", "_law_cell", defArgs sCell, defBody sCell, defScope sCell, []⟩
def dj33 : SJ.DJ := ⟨fun K => (He.ga K "_law_source"), "_law_source", "_law_source", defArgs sSrc, defBody sSrc, defScope sSrc, []⟩
def dj34 : SJ.DJ := ⟨fun K => (He.ga K "_law_draw"), "_law_draw", "_law_draw", defArgs sDraw, defBody sDraw, defScope sDraw, []⟩
def dj35 : SJ.DJ := ⟨fun K => (He.ga K "_law_whole"), "_law_whole", "_law_whole", defArgs sWho, defBody sWho, defScope sWho, []⟩
def dj36 : SJ.DJ := ⟨fun K => (He.ga K "_law_word"), "_law_word", "_law_word", defArgs sWord, defBody sWord, defScope sWord, []⟩
def dj37 : SJ.DJ := ⟨fun K => (He.ga K "_law_fields"), "_law_fields", "_law_fields", defArgs sFields, defBody sFields, defScope sFields, []⟩
def dj38 : SJ.DJ := ⟨fun K => (He.ga K "_law_caught"), "_law_caught", "_law_caught", defArgs sCaught, defBody sCaught, defScope sCaught, []⟩
def dj39 : SJ.DJ := ⟨fun K => (He.ga K "_law_thing"), "_law_thing", "_law_thing", defArgs sThing, defBody sThing, defScope sThing, []⟩
def dj40 : SJ.DJ := ⟨fun K => (He.ga K "_law_is_whole"), "_law_is_whole", "_law_is_whole", defArgs sLWh, defBody sLWh, defScope sLWh, []⟩
def dj41 : SJ.DJ := ⟨fun K => (He.ga K "_law_made_due"), "_law_made_due", "_law_made_due", defArgs sMDue, defBody sMDue, defScope sMDue, []⟩
def dj42 : SJ.DJ := ⟨fun K => (He.ga K "_law_is_due"), "_law_is_due", "_law_is_due", defArgs sIDue, defBody sIDue, defScope sIDue, []⟩
def dj43 : SJ.DJ := ⟨fun K => (He.ga K "_law_over_due"), "_law_over_due", "_law_over_due", defArgs sODue, defBody sODue, defScope sODue, []⟩
def dj44 : SJ.DJ := ⟨fun K => (He.ga K "_law_power_due"), "_law_power_due", "_law_power_due", defArgs sPDue, defBody sPDue, defScope sPDue, []⟩
def dj45 : SJ.DJ := ⟨fun K => (He.ga K "_law_right"), "_law_right", "_law_right", defArgs sRight, defBody sRight, defScope sRight, []⟩
def dj46 : SJ.DJ := ⟨fun K => (He.ga K "law"), "law", "law", defArgs sLaw, defBody sLaw, defScope sLaw, []⟩
def dj47 : SJ.DJ := ⟨fun K => (SJ.recF K (SJ.clsP K (He.ga K "Ratio") "read") "classmethod"), "read", "Ratio.read", defArgs sRd, defBody sRd, defScope sRd, []⟩
def dj48 : SJ.DJ := ⟨fun K => (He.ma K (He.ga K "Ratio") "__init__"), "__init__", "Ratio.__init__", defArgs sIni, defBody sIni, defScope sIni, [.int 1]⟩
def dj49 : SJ.DJ := ⟨fun K => (He.ma K (He.ga K "InvalidNumber") "__init__"), "__init__", "InvalidNumber.__init__", defArgs sENum, defBody sENum, defScope sENum, []⟩
def dj50 : SJ.DJ := ⟨fun K => (He.ma K (He.ga K "InvalidText") "__init__"), "__init__", "InvalidText.__init__", defArgs sETxt, defBody sETxt, defScope sETxt, []⟩
def dj51 : SJ.DJ := ⟨fun K => (He.ma K (He.ga K "InvalidCount") "__init__"), "__init__", "InvalidCount.__init__", defArgs sECnt, defBody sECnt, defScope sECnt, []⟩
def fnJ : List SJ.DJ := [dj0, dj1, dj2, dj3, dj4, dj5, dj6, dj7, dj8, dj9, dj10, dj11, dj12, dj13, dj14, dj15, dj16, dj17, dj18, dj19, dj20, dj21, dj22, dj23, dj24, dj25, dj26, dj27, dj28, dj29, dj30, dj31, dj32, dj33, dj34, dj35, dj36, dj37, dj38, dj39, dj40, dj41, dj42, dj43, dj44, dj45, dj46, dj47, dj48, dj49, dj50, dj51]
def lamJ : List (PySem.W.Frag → Addr) := [fun K => (He.ga K "_law_right")]
def ls0 : List PySem.Str := ["GivenError", "InvalidNumber", "InvalidText", "InvalidCount", "InvalidName", "InvalidTruth", "InvalidEntries", "NotAFormula", "TextError", "NameProblem", "UnknownName", "Clash", "AnswerError", "DividedByZero", "TooLarge", "MOST_POWER", "is_whole", "is_number", "Ratio", "as_ratio"]
def ls1 : List PySem.Str := ["_ratio_sum", "_product", "_inverse", "_floor", "_remainder", "_whole_power", "_is_text", "_is_positive_text", "_law_cell", "_law_source", "_law_draw", "_law_whole", "_law_word", "_law_fields", "_law_caught", "_law_thing", "_law_is_whole", "_law_made_due", "_law_is_due", "_law_over_due"]
def ls2 : List PySem.Str := ["_law_power_due", "_law_right"]
def looseJ : List PySem.Str := ls0 ++ (ls1 ++ (ls2))
def R1 : PySem.W.OpenRow := PySem.W.OpenLaw.row PySem.Challenge.rw_seriesforms_k06_ratios_refused
def hkJ : PySem.W.Hook := SJ.hookJ 6 fnJ exJ lamJ
def obJ (s : PySem.W.SharedT) : SJ.AlJ := SJ.obsJ 6 fnJ exJ lamJ (HeadRun.getT s)
theorem ob_eqJ (s : PySem.W.SharedT) : obJ s = hkJ.obs s.abs := SJ.obsJ_eq s
set_option maxHeartbeats 0 in
theorem run1 (w : World) : (HeadRun.wholeF (fun p => HeadRun.stepQ (HeadRun.denQ HeadRun.tabQ) p w) HeadRun.fenceQ 20000 R1.prog).map (fun x => HeadRun.looksF R1.prog x.1.heap x.2.abs) = some true := by kernel_rfl
set_option maxHeartbeats 0 in
theorem run2 (w : World) : (HeadRun.wholeF (fun p => HeadRun.stepQ (HeadRun.denQ HeadRun.tabQ) p w) HeadRun.fenceQ 20000 R1.prog).map (fun x => HeadRun.seenQ (PySem.W.view R1.prog [0, 46]) looseJ (importedModules R1.prog.main.body) (fun s => PySem.W.xlAt (PySem.W.view R1.prog [0, 46]) [] s && PySem.W.recOk R1.toRowW.records s) x.2.abs) = some (PySem.W.openGood (PySem.W.view R1.prog [0, 46]) looseJ) := by kernel_rfl
set_option maxHeartbeats 0 in
theorem run3 (w : World) : (HeadRun.wholeF (fun p => HeadRun.stepQ (HeadRun.denQ HeadRun.tabQ) p w) HeadRun.fenceQ 20000 R1.prog).map (fun x => obJ x.2) = some (SJ.valJ fnJ lamJ) := by kernel_rfl
theorem runJ (w : World) : HeadRun.RunEqI R1 (PySem.W.view R1.prog [0, 46]) hkJ obJ 20000 looseJ w := SJ.map3 (run1 w) (run2 w) (run3 w)
end T06

/-! Comparisons as tests. Rational numbers: what the laws ask. -/
namespace SQ
open PySem PySem.Spec PyProof.Rows L2 SF
section
variable {X : Cx} {C : Addr} {G : L2.St → Hp → Prop} {a b e : Expr} {k k1 k2 : Bool} {n m : Nat} {q r : Rat} {s s1 s2 : Prop} {pos p1 p2 : Pos}
theorem pq_cmpT {op : CmpOp} {f : Rat → Rat → Bool} (ho : OpR X (compareOp op) (rQe C k2 f)) (hG : GS G) (hm : behindInMarks op b = false) (ha : PE X a (TQ C G true n q s1)) (hb : PE X b (TQ C G k2 m r s2)) :
    PT X (.Compare a [op] [b] pos) (TBt G (f q r) (s1 ∧ s2)) :=
  pt_weak (pt_cmpR ho ha hb hm) fun σ H Q ⟨hg, ⟨h1, h2⟩, z⟩ =>
    ⟨hg, h1, fun v H1 S1 nv => ⟨hG _ _ _ hg S1, h2, fun u H2 S2 nu => ⟨n, m, q, r, nv.same S2, nu, ⟨_, rfl, z H2 (S1.trans S2)⟩⟩⟩⟩
theorem pb_eqT {b1 b2 : Bool} (hG : GS G) (hm : behindInMarks .Eq b = false) (ha : PE X a (TB G b1 s1)) (hb : PE X b (TB G b2 s2)) : PT X (.Compare a [.Eq] [b] pos) (TBt G (decide (b1 = b2)) (s1 ∧ s2)) :=
  pt_weak (pt_cmpR op_eq ha hb hm) fun σ H Q ⟨hg, ⟨h1, h2⟩, z⟩ => ⟨hg, h1, fun H1 S1 => ⟨hG _ _ _ hg S1, h2, fun H2 S2 => ⟨rfl, by
    rw [show decide (V.bl b1 = V.bl b2) = decide (b1 = b2) by cases b1 <;> cases b2 <;> rfl]; exact ⟨_, rfl, z H2 (S1.trans S2)⟩⟩⟩⟩
theorem pb_neT {b1 b2 : Bool} (hG : GS G) (hm : behindInMarks .NotEq b = false) (ha : PE X a (TB G b1 s1)) (hb : PE X b (TB G b2 s2)) : PT X (.Compare a [.NotEq] [b] pos) (TBt G (!decide (b1 = b2)) (s1 ∧ s2)) :=
  pt_weak (pt_cmpR op_ne ha hb hm) fun σ H Q ⟨hg, ⟨h1, h2⟩, z⟩ => ⟨hg, h1, fun H1 S1 => ⟨hG _ _ _ hg S1, h2, fun H2 S2 => ⟨rfl, by
    rw [show decide (V.bl b1 = V.bl b2) = decide (b1 = b2) by cases b1 <;> cases b2 <;> rfl]; exact ⟨_, rfl, z H2 (S1.trans S2)⟩⟩⟩⟩
theorem pS_eqT {x y : Str} (hG : GS G) (hm : behindInMarks .Eq b = false) (ha : PE X a (TS G x s1)) (hb : PE X b (TS G y s2)) : PT X (.Compare a [.Eq] [b] pos) (TBt G (decide (x = y)) (s1 ∧ s2)) :=
  pt_weak (pt_cmpR op_eq ha hb hm) fun σ H Q ⟨hg, ⟨h1, h2⟩, z⟩ => ⟨hg, h1, fun H1 S1 => ⟨hG _ _ _ hg S1, h2, fun H2 S2 => ⟨rfl, by
    have e : decide (V.str x = V.str y) = decide (x = y) := by
      by_cases h : x = y
      · rw [h]; simp
      · rw [decide_eq_false h, decide_eq_false (fun z => h (V.str.inj z))]
    rw [e]; exact ⟨_, rfl, z H2 (S1.trans S2)⟩⟩⟩⟩
theorem pI_eqT {i j : Int} (hG : GS G) (hm : behindInMarks .Eq b = false) (ha : PE X a (TI G i s1)) (hb : PE X b (TI G j s2)) : PT X (.Compare a [.Eq] [b] pos) (TBt G (decide (i = j)) (s1 ∧ s2)) :=
  pt_weak (pt_cmpR op_eq ha hb hm) fun σ H Q ⟨hg, ⟨h1, h2⟩, z⟩ => ⟨hg, h1, fun H1 S1 => ⟨hG _ _ _ hg S1, h2, fun H2 S2 => ⟨rfl, by rw [dint]; exact ⟨_, rfl, z H2 (S1.trans S2)⟩⟩⟩⟩
theorem pI_neT {i j : Int} (hG : GS G) (hm : behindInMarks .NotEq b = false) (ha : PE X a (TI G i s1)) (hb : PE X b (TI G j s2)) : PT X (.Compare a [.NotEq] [b] pos) (TBt G (!decide (i = j)) (s1 ∧ s2)) :=
  pt_weak (pt_cmpR op_ne ha hb hm) fun σ H Q ⟨hg, ⟨h1, h2⟩, z⟩ => ⟨hg, h1, fun H1 S1 => ⟨hG _ _ _ hg S1, h2, fun H2 S2 => ⟨rfl, by rw [dint]; exact ⟨_, rfl, z H2 (S1.trans S2)⟩⟩⟩⟩
theorem pI_leT {i j : Int} (hG : GS G) (hm : behindInMarks .LtE b = false) (ha : PE X a (TI G i s1)) (hb : PE X b (TI G j s2)) : PT X (.Compare a [.LtE] [b] pos) (TBt G (decide (i ≤ j)) (s1 ∧ s2)) :=
  pt_weak (pt_cmpR op_le ha hb hm) fun σ H Q ⟨hg, ⟨h1, h2⟩, z⟩ => ⟨hg, h1, fun H1 S1 => ⟨hG _ _ _ hg S1, h2, fun H2 S2 => ⟨_, _, rfl, rfl, ⟨_, rfl, z H2 (S1.trans S2)⟩⟩⟩⟩
theorem pI_gtT {i j : Int} (hG : GS G) (hm : behindInMarks .Gt b = false) (ha : PE X a (TI G i s1)) (hb : PE X b (TI G j s2)) : PT X (.Compare a [.Gt] [b] pos) (TBt G (decide (i > j)) (s1 ∧ s2)) :=
  pt_weak (pt_cmpR op_gt ha hb hm) fun σ H Q ⟨hg, ⟨h1, h2⟩, z⟩ => ⟨hg, h1, fun H1 S1 => ⟨hG _ _ _ hg S1, h2, fun H2 S2 => ⟨_, _, rfl, rfl, ⟨_, rfl, z H2 (S1.trans S2)⟩⟩⟩⟩
end
end SQ
namespace SQ
theorem rat_pow_add (q : Rat) (m : Nat) : ∀ n : Nat, q ^ (m + n) = q ^ m * q ^ n
  | 0 => by rw [Nat.add_zero, Rat.pow_zero, Rat.mul_one]
  | n + 1 => by rw [← Nat.add_assoc, Rat.pow_succ, rat_pow_add q m n, Rat.pow_succ, Rat.mul_assoc]
theorem rat_zpow_add {q : Rat} {i j : Int} (h : q ≠ 0 ∨ (0 ≤ i ∧ 0 ≤ j)) : q ^ i * q ^ j = q ^ (i + j) := by
  rcases h with h | ⟨hi, hj⟩
  · exact (Rat.zpow_add h i j).symm
  · obtain ⟨m, rfl⟩ := Int.eq_ofNat_of_zero_le hi
    obtain ⟨n, rfl⟩ := Int.eq_ofNat_of_zero_le hj
    have e : ((m : Int) + (n : Int)) = ((m + n : Nat) : Int) := by omega
    rw [e, Rat.zpow_natCast, Rat.zpow_natCast, Rat.zpow_natCast, rat_pow_add]
theorem zpow1 (q : Rat) : q ^ (1 : Int) = q := Rat.zpow_one q
theorem zpow0 (q : Rat) : q ^ (0 : Int) = 1 := Rat.zpow_zero q
theorem zpow2 (q : Rat) : q ^ (2 : Int) = q * q := by
  show q ^ ((2 : Nat) : Int) = _
  rw [Rat.zpow_natCast, Rat.pow_succ, Rat.pow_one]
theorem zpow3 (q : Rat) : q ^ (3 : Int) = q * q * q := by
  show q ^ ((3 : Nat) : Int) = _
  rw [Rat.zpow_natCast, Rat.pow_succ, Rat.pow_succ, Rat.pow_one]
theorem abs_mul (a b : Rat) : (a * b).abs = a.abs * b.abs := by
  by_cases ha : 0 ≤ a <;> by_cases hb : 0 ≤ b
  · rw [Rat.abs_of_nonneg ha, Rat.abs_of_nonneg hb, Rat.abs_of_nonneg (Rat.mul_nonneg ha hb)]
  · have hb' : 0 ≤ -b := by grind
    rw [Rat.abs_of_nonneg ha, ← Rat.abs_neg (x := b), Rat.abs_of_nonneg hb', ← Rat.abs_neg, ← Rat.mul_neg, Rat.abs_of_nonneg (Rat.mul_nonneg ha hb')]
  · have ha' : 0 ≤ -a := by grind
    rw [Rat.abs_of_nonneg hb, ← Rat.abs_neg (x := a), Rat.abs_of_nonneg ha', ← Rat.abs_neg, ← Rat.neg_mul, Rat.abs_of_nonneg (Rat.mul_nonneg ha' hb)]
  · have ha' : 0 ≤ -a := by grind
    have hb' : 0 ≤ -b := by grind
    rw [← Rat.abs_neg (x := a), ← Rat.abs_neg (x := b), Rat.abs_of_nonneg ha', Rat.abs_of_nonneg hb']
    have e : a * b = -a * -b := by grind
    rw [e, Rat.abs_of_nonneg (Rat.mul_nonneg ha' hb')]
/-- the quotient and the remainder -/
theorem div_rem {a b : Rat} (h : b ≠ 0) : (0 < b → 0 ≤ a - b * ((a / b).floor : Rat) ∧ a - b * ((a / b).floor : Rat) < b) ∧ (b < 0 → a - b * ((a / b).floor : Rat) ≤ 0 ∧ b < a - b * ((a / b).floor : Rat)) := by
  have f1 := Rat.floor_le (a / b)
  have f2 := Rat.lt_floor_add_one (a / b)
  rw [Rat.intCast_add] at f2
  generalize ((a / b).floor : Rat) = f at f1 f2
  have e : a / b * b = a := Rat.div_mul_cancel h
  generalize a / b = d at f1 f2 e
  constructor
  · intro hb
    have m1 := Rat.mul_le_mul_of_nonneg_right f1 (Rat.le_of_lt hb)
    have m2 := Rat.mul_lt_mul_of_pos_right f2 hb
    rw [e] at m1 m2
    have c1 : ((1 : Int) : Rat) = 1 := rfl
    rw [c1] at m2
    constructor <;> grind
  · intro hb
    have hb' : 0 < -b := by grind
    have m1 := Rat.mul_le_mul_of_nonneg_right f1 (Rat.le_of_lt hb')
    have m2 := Rat.mul_lt_mul_of_pos_right f2 hb'
    have c1 : ((1 : Int) : Rat) = 1 := rfl
    rw [c1] at m2
    constructor <;> grind
theorem pos_num {q : Rat} : 0 < q.num ↔ 0 < q := by
  have h := Rat.lt_iff 0 q
  simp at h
  exact h.symm
end SQ

/-! Pairs of ints compared; a class method that reads a text. -/
namespace SQ
open PySem PySem.Spec PyProof.Rows L2 SF
section
variable {X : Cx} {C : Addr} {G : L2.St → Hp → Prop} {a b c d e : Expr} {n m : Nat} {q r : Rat} {s s1 s2 s3 s4 : Prop} {pos p1 p2 : Pos} {k1 k2 : Nat} {i j i' j' : Int}
/-- (a, b) == (c, d) -/
theorem pT_eq (hu : X.A.units + 64 < cLine) (hG : GS G) (hm : behindInMarks .Eq (.Tuple [c, d] k2 p2) = false) (ha : PE X a (TI G i s1)) (hb : PE X b (TI G j s2)) (hc : PE X c (TI G i' s3)) (hd : PE X d (TI G j' s4))
    (h1 : starEach (a :: [b]) X.env = (false, eval a X.env) :: starEach [b] X.env := by rfl) (h2 : starEach (b :: []) X.env = (false, eval b X.env) :: starEach [] X.env := by rfl)
    (h3 : starEach (c :: [d]) X.env = (false, eval c X.env) :: starEach [d] X.env := by rfl) (h4 : starEach (d :: []) X.env = (false, eval d X.env) :: starEach [] X.env := by rfl) :
    PE X (.Compare (.Tuple [a, b] k1 p1) [.Eq] [.Tuple [c, d] k2 p2] pos) (TB G (decide (i = i') && decide (j = j')) (s1 ∧ s2 ∧ s3 ∧ s4)) :=
  pe_weak (pe_cmpR (op_eqD hu) (pe_tup (pa_cons ha (pa_cons hb pa_nil h2) h1)) (pe_tup (pa_cons hc (pa_cons hd pa_nil h4) h3)) hm) fun σ H Q ⟨hg, ⟨x1, x2, x3, x4⟩, z⟩ =>
    ⟨hg, x1, fun H1 S1 => ⟨hG _ _ _ hg S1, x2, fun H2 S2 => ⟨(by show 2 ≤ sizeLine; decide), fun p np => by
      have S3 : Same H2 (upd H2 p (.tup [.int i, .int j])) := same_new (Same.refl _) np
      refine ⟨hG _ _ _ (hG _ _ _ (hG _ _ _ hg S1) S2) S3, x3, fun H3 S4 => ⟨hG _ _ _ (hG _ _ _ (hG _ _ _ (hG _ _ _ hg S1) S2) S3) S4, x4, fun H4 S5 => ⟨(by show 2 ≤ sizeLine; decide), fun p' np' => ?_⟩⟩⟩
      have S6 : Same H4 (upd H4 p' (.tup [.int i', .int j'])) := same_new (Same.refl _) np'
      have e1 : upd H4 p' (.tup [.int i', .int j']) p = some (.tup [.int i, .int j]) := S6 _ _ (S5 _ _ (S4 _ _ upd_same))
      refine ⟨.tuple [.int i, .int j], .tuple [.int i', .int j'], .tup (SqT.of e1) (.cons (.int i) (.cons (.int j) .nil)), .tup (SqT.of upd_same) (.cons (.int i') (.cons (.int j') .nil)), rfl, rfl, ?_⟩
      have e2 : PyData.eqv (.tuple [.int i, .int j]) (.tuple [.int i', .int j']) = (decide (i = i') && decide (j = j')) := by
        show (i == i' && (j == j' && true)) = _
        rw [Bool.and_true]
        rfl
      rw [e2]
      exact z _ ((((((S1.trans S2).trans S3).trans S4).trans S5)).trans S6)⟩⟩⟩
/-- C.read(e) -/
theorem pq_read {l : Nat} {pl : Sem Bool} {o : Expr} {apos : Pos} {p g : Addr} {fd : FuncData} {ps : List Str} {mc : Value} {x : Str} (ho : PE X o (tC (.ref C))) (r : ClX.CRead X.K C mc) (cm : ClX.CMet X.K C mc "read" p g) (F : FnOk X.prog X.w X.K X.mg X.base CX0 l g fd ps (spRd C)) (hb : Binds X.K fd ps []) (hr : Room l X.A)
    (ha : PE X a (TS G x s))
    (hst : starEach (a :: []) X.env = (false, eval a X.env) :: starEach [] X.env := by rfl) (hpl : (backTo pos (starEach [] X.env)).any (·.1) = false := by rfl)
    (ht : eval (.Call (.Attribute o "read" apos) (a :: []) [] pos) X.env = (do
      let ov ← eval o X.env
      standAt apos.atName
      let (f, first) ← holding [ov] (getMethod ov "read" pl)
      callWith pos f first (backTo pos (starEach (a :: []) X.env)) (backToKw pos (keywordEach [] X.env))) := by rfl) :
    PE X (.Call (.Attribute o "read" apos) [a] [] pos) (TQ C G true RDN (rdq x) (s ∧ isTx x = true ∧ x.length ≤ 640)) :=
  pe_weak (ClX.pe_cmeth (E := E0) ho r cm (F.raw hb .nil) hr pass0 (pa_cons ha pa_nil hst) hst hpl ht) fun σ H Q ⟨hg, ⟨h1, h2, h3⟩, z⟩ =>
    ⟨rfl, hg, h1, fun H1 S1 => ⟨x, rfl, h3, h2, fun p H2 S2 rq => z _ H2 (S1.trans S2) rq.nv⟩⟩
theorem pss_weak {X : Cx} {st : List Stmt} {t t' : L2.TS} (h : PSs X st t) (i : ∀ D σ H, t' D σ H → t D σ H) : PSs X st t' := ⟨fun pins s σ H D I x => h.run pins s σ H D I (i _ _ _ x)⟩
/-- a block whose reading has a number that is known only at its start -/
theorem pss_ex {α : Type} {X : Cx} {st : List Stmt} {t : α → L2.TS} (h : ∀ i, PSs X st (t i)) : PSs X st (fun D σ H => ∃ i, t i D σ H) := ⟨fun pins s σ H D I ⟨i, x⟩ => (h i).run pins s σ H D I x⟩
end
theorem rstr_len {q : Rat} {n : Nat} (h1 : (tx q.num).length ≤ n) (h2 : (tx q.den).length ≤ n) : (rstr q).length ≤ 2 * n + 1 := by
  unfold rstr
  split
  · omega
  · simp only [Str.length_append]
    have e1 : Str.empty.length = 0 := rfl
    have e2 : ("/" : Str).length = 1 := rfl
    omega
theorem tx_short {i : Int} (h : i.natAbs < 2 ^ 800) : (tx i).length ≤ 250 := by
  have hb : i.natAbs < 10 ^ 249 := Nat.lt_of_lt_of_le h (by decide +kernel)
  rcases tx_cases i with ⟨n, rfl, e⟩ | ⟨n, _, rfl, e⟩
  · rw [TL.len_tl, e]
    exact Nat.le_trans (TL.numL_len (k := 249) (by decide) (by simpa using hb)) (by decide)
  · rw [TL.len_tl, e, List.length_cons]
    have := TL.numL_len (n := n) (k := 249) (by decide) (by simpa using hb)
    omega
end SQ

/-! Pairs of numerator and denominator, as the laws keep them. -/
namespace SQ
open PySem PySem.Spec PyProof.Rows L2 SF
theorem PQ.same {H H' : Hp} {p : Addr} {n : Nat} {q : Rat} (h : PQ H p n q) (s : Same H H') : PQ H' p n q := ⟨s _ _ h.1, h.2⟩
/-- e is the pair of q, of n binary digits, if s -/
def TP (G : L2.St → Hp → Prop) (n : Nat) (q : Rat) (s : Prop) : TE := fun σ H Q => G σ H ∧ s ∧ ∀ p H', Same H H' → PQ H' p n q → Q (.ref p) H'
def spP2 (side : Rat → Rat → Prop) (f : Rat → Rat → Rat) (g : Nat → Nat → Nat) : Sp := fun vs H Q _ => ∃ a b n m q r, vs = [.ref a, .ref b] ∧ PQ H a n q ∧ PQ H b m r ∧ side q r ∧ g n m ≤ LIM ∧ ∀ p H', Same H H' → PQ H' p (g n m) (f q r) → Q (.ref p) H'
def spP1 (f : Rat → Rat) : Sp := fun vs H Q _ => ∃ a n q, vs = [.ref a] ∧ PQ H a n q ∧ n ≤ LIM ∧ ∀ p H', Same H H' → PQ H' p n (f q) → Q (.ref p) H'
def spPI (side : Rat → Int → Prop) (f : Rat → Int → Rat) (g : Nat → Int → Nat) : Sp := fun vs H Q _ => ∃ a n q i, vs = [.ref a, .int i] ∧ PQ H a n q ∧ side q i ∧ n ≤ LIM ∧ g n i ≤ LIM ∧ ∀ p H', Same H H' → PQ H' p (g n i) (f q i) → Q (.ref p) H'
def spShown : Sp := fun vs H Q _ => ∃ a n q, vs = [.ref a] ∧ PQ H a n q ∧ n ≤ LIM ∧ ∀ H', Same H H' → Q (.str (rrepr q)) H'
section
variable {X : Cx} {C : Addr} {G : L2.St → Hp → Prop} {a b e : Expr} {l n m : Nat} {q r : Rat} {s s1 s2 : Prop} {pos p1 p2 : Pos} {i j : Int} {x : Str} {D : Addr} {fd : FuncData} {ps : List Str}
theorem vP (L : List Sl) (j : Nat) (h : PE X e (tVar j)) (hL : L[j]? = some (.pr n q)) : PE X e (TP (Env C L) n q True) :=
  pe_weak h fun σ H Q ⟨hg, _, z⟩ => by
    obtain ⟨o, e1, p, rfl, r⟩ := hg.at hL
    exact ⟨_, e1, z p H (Same.refl _) r⟩
/-- e[0], e[1] -/
theorem pI_p0 {k : Nat} {pc : Pos} (ha : PE X a (TP G n q s)) : PE X (.Subscript a (.Constant (.int 0) k pc) pos) (TI G q.num s) :=
  pe_weak (pe_ix ix_tup ha pe_int (fun _ _ => rfl)) fun σ H Q ⟨hg, h1, z⟩ => ⟨hg, h1, fun p H1 S1 r => ⟨p, _, 0, _, rfl, rfl, SqT.of r.1, at_of (j := 0) rfl rfl, z H1 S1⟩⟩
theorem pI_p1 {k : Nat} {pc : Pos} (ha : PE X a (TP G n q s)) : PE X (.Subscript a (.Constant (.int 1) k pc) pos) (TI G (q.den : Int) s) :=
  pe_weak (pe_ix ix_tup ha pe_int (fun _ _ => rfl)) fun σ H Q ⟨hg, h1, z⟩ => ⟨hg, h1, fun p H1 S1 r => ⟨p, _, 1, _, rfl, rfl, SqT.of r.1, at_of (j := 1) rfl rfl, z H1 S1⟩⟩
/-- (e, f) -/
theorem pP_tup {k : Nat} (hG : GS G) (ha : PE X a (TI G i s1)) (hb : PE X b (TI G j s2)) (hi : i = q.num) (hj : j = (q.den : Int)) (sz : Sz n q)
    (he : starEach (a :: [b]) X.env = (false, eval a X.env) :: starEach [b] X.env := by rfl) (he2 : starEach (b :: []) X.env = (false, eval b X.env) :: starEach [] X.env := by rfl) : PE X (.Tuple [a, b] k pos) (TP G n q (s1 ∧ s2)) :=
  pe_weak (pe_tup (pa_cons ha (pa_cons hb pa_nil he2) he)) fun σ H Q ⟨hg, ⟨h1, h2⟩, z⟩ => ⟨hg, h1, fun H1 S1 => ⟨hG _ _ _ hg S1, h2, fun H2 S2 => ⟨(by show 2 ≤ sizeLine; decide), fun p np => z p _ (same_new (S1.trans S2) np) ⟨by rw [upd_same, hi, hj], sz⟩⟩⟩⟩
theorem pP_call2 {side : Rat → Rat → Prop} {f : Rat → Rat → Rat} {g : Nat → Nat → Nat} (F : FnOk X.prog X.w X.K X.mg X.base CX0 l D fd ps (spP2 side f g)) (hr : Room l X.A) (hg : Gl X x) (hm : X.mg x = some (.ref D)) (hk : PySem.W.keepIn X.K (.ref D) = true) (hb : Binds X.K fd ps []) (hG : GS G)
    (ha : PE X a (TP G n q s1)) (hb' : PE X b (TP G m r s2)) (hdb : (x == ("__debug__" : Str)) = false := by decide)
    (he : starEach (a :: [b]) X.env = (false, eval a X.env) :: starEach [b] X.env := by rfl) (he2 : starEach (b :: []) X.env = (false, eval b X.env) :: starEach [] X.env := by rfl) (hpl : (backTo pos (starEach [b] X.env)).any (·.1) = false := by rfl) :
    PE X (.Call (.Name x p1) [a, b] [] pos) (TP G (g n m) (f q r) (s1 ∧ s2 ∧ side q r ∧ g n m ≤ LIM)) :=
  pe_weak (pe_call (E := E0) F hr hg hm hk hb .nil pass0 (pa_cons ha (pa_cons hb' pa_nil he2) he) hdb he hpl) fun σ H Q ⟨hg, ⟨h1, h2, h3, h4⟩, z⟩ =>
    ⟨hg, h1, fun v H1 S1 nv => ⟨hG _ _ _ hg S1, h2, fun u H2 S2 nu => ⟨v, u, n, m, q, r, rfl, nv.same S2, nu, h3, h4, fun p H3 S3 rq => z _ H3 ((S1.trans S2).trans S3) rq⟩⟩⟩
theorem pP_call1 {f : Rat → Rat} (F : FnOk X.prog X.w X.K X.mg X.base CX0 l D fd ps (spP1 f)) (hr : Room l X.A) (hg : Gl X x) (hm : X.mg x = some (.ref D)) (hk : PySem.W.keepIn X.K (.ref D) = true) (hb : Binds X.K fd ps [])
    (ha : PE X a (TP G n q s1)) (hdb : (x == ("__debug__" : Str)) = false := by decide)
    (he : starEach (a :: []) X.env = (false, eval a X.env) :: starEach [] X.env := by rfl) (hpl : (backTo pos (starEach [] X.env)).any (·.1) = false := by rfl) : PE X (.Call (.Name x p1) [a] [] pos) (TP G n (f q) (s1 ∧ n ≤ LIM)) :=
  pe_weak (pe_call (E := E0) F hr hg hm hk hb .nil pass0 (pa_cons ha pa_nil he) hdb he hpl) fun σ H Q ⟨hg, ⟨h1, h2⟩, z⟩ => ⟨hg, h1, fun v H1 S1 nv => ⟨v, n, q, rfl, nv, h2, fun p H3 S3 rq => z _ H3 (S1.trans S3) rq⟩⟩
theorem pP_callI {side : Rat → Int → Prop} {f : Rat → Int → Rat} {g : Nat → Int → Nat} (F : FnOk X.prog X.w X.K X.mg X.base CX0 l D fd ps (spPI side f g)) (hr : Room l X.A) (hg : Gl X x) (hm : X.mg x = some (.ref D)) (hk : PySem.W.keepIn X.K (.ref D) = true) (hb : Binds X.K fd ps []) (hG : GS G)
    (ha : PE X a (TP G n q s1)) (hb' : PE X b (TI G i s2)) (hdb : (x == ("__debug__" : Str)) = false := by decide)
    (he : starEach (a :: [b]) X.env = (false, eval a X.env) :: starEach [b] X.env := by rfl) (he2 : starEach (b :: []) X.env = (false, eval b X.env) :: starEach [] X.env := by rfl) (hpl : (backTo pos (starEach [b] X.env)).any (·.1) = false := by rfl) :
    PE X (.Call (.Name x p1) [a, b] [] pos) (TP G (g n i) (f q i) (s1 ∧ s2 ∧ side q i ∧ n ≤ LIM ∧ g n i ≤ LIM)) :=
  pe_weak (pe_call (E := E0) F hr hg hm hk hb .nil pass0 (pa_cons ha (pa_cons hb' pa_nil he2) he) hdb he hpl) fun σ H Q ⟨hg, ⟨h1, h2, h3, h4, h5⟩, z⟩ =>
    ⟨hg, h1, fun v H1 S1 nv => ⟨hG _ _ _ hg S1, h2, fun H2 S2 => ⟨v, n, q, i, rfl, nv.same S2, h3, h4, h5, fun p H3 S3 rq => z _ H3 ((S1.trans S2).trans S3) rq⟩⟩⟩
theorem pS_shown (F : FnOk X.prog X.w X.K X.mg X.base CX0 l D fd ps spShown) (hr : Room l X.A) (hg : Gl X x) (hm : X.mg x = some (.ref D)) (hk : PySem.W.keepIn X.K (.ref D) = true) (hb : Binds X.K fd ps [])
    (ha : PE X a (TP G n q s1)) (hdb : (x == ("__debug__" : Str)) = false := by decide)
    (he : starEach (a :: []) X.env = (false, eval a X.env) :: starEach [] X.env := by rfl) (hpl : (backTo pos (starEach [] X.env)).any (·.1) = false := by rfl) : PE X (.Call (.Name x p1) [a] [] pos) (TS G (rrepr q) (s1 ∧ n ≤ LIM)) :=
  pe_weak (pe_call (E := E0) F hr hg hm hk hb .nil pass0 (pa_cons ha pa_nil he) hdb he hpl) fun σ H Q ⟨hg, ⟨h1, h2⟩, z⟩ => ⟨hg, h1, fun v H1 S1 nv => ⟨v, n, q, rfl, nv, h2, fun H3 S3 => z H3 (S1.trans S3)⟩⟩
/-- _law_lowest(e, f) -/
theorem pP_low (F : FnOk X.prog X.w X.K X.mg X.base CX0 l D fd ps (fun vs H Q _ => ∃ u l : Int, vs = [.int u, .int l] ∧ l ≠ 0 ∧ l.natAbs < 2 ^ LIM ∧ ∀ p, H p = none → Q (.ref p) (upd H p (.tup [.int (nt u l), .int (nb u l)])))) (hr : Room l X.A) (hg : Gl X x) (hm : X.mg x = some (.ref D)) (hk : PySem.W.keepIn X.K (.ref D) = true) (hb : Binds X.K fd ps []) (hG : GS G)
    (ha : PE X a (TI G i s1)) (hb' : PE X b (TI G j s2)) (hi : i.natAbs < 2 ^ n) (hj : j.natAbs < 2 ^ n) (hdb : (x == ("__debug__" : Str)) = false := by decide)
    (he : starEach (a :: [b]) X.env = (false, eval a X.env) :: starEach [b] X.env := by rfl) (he2 : starEach (b :: []) X.env = (false, eval b X.env) :: starEach [] X.env := by rfl) (hpl : (backTo pos (starEach [b] X.env)).any (·.1) = false := by rfl) :
    PE X (.Call (.Name x p1) [a, b] [] pos) (TP G n (Rat.divInt i j) (s1 ∧ s2 ∧ j ≠ 0 ∧ n ≤ LIM)) :=
  pe_weak (pe_call (E := E0) F hr hg hm hk hb .nil pass0 (pa_cons ha (pa_cons hb' pa_nil he2) he) hdb he hpl) fun σ H Q ⟨hg, ⟨h1, h2, h3, h4⟩, z⟩ =>
    ⟨hg, h1, fun H1 S1 => ⟨hG _ _ _ hg S1, h2, fun H2 S2 => ⟨i, j, rfl, h3, Nat.lt_of_lt_of_le hj (two_le h4), fun p np => z p _ (same_new (S1.trans S2) np) ⟨by rw [upd_same, nt_rat h3, nb_rat h3], Sz.of h3 hi hj⟩⟩⟩⟩
/-- int(e) -/
theorem pI_intc (hg : Gl X x) (hm : X.mg x = none) (hv : bootBuiltins x = some (.type "int")) (ha : PE X a (TI G i s)) (hn : x ≠ "__name__" := by decide) (hdb : (x == ("__debug__" : Str)) = false := by decide)
    (he : starEach (a :: []) X.env = (false, eval a X.env) :: starEach [] X.env := by rfl) (hpl : (backTo pos (starEach [] X.env)).any (·.1) = false := by rfl) : PE X (.Call (.Name x p1) [a] [] pos) (TI G i s) :=
  pe_weak (pe_callTy call_int1 hg hm hv (pa_cons ha pa_nil he) hn hdb he hpl) fun σ H Q ⟨hg, h1, z⟩ => ⟨hg, h1, fun H1 S1 => .inl ⟨i, rfl, z H1 S1⟩⟩
/-- texts joined -/
theorem pS_add {y z : Str} (hG : GS G) (ha : PE X a (TS G y s1)) (hb : PE X b (TS G z s2)) : PE X (.BinOp a .Add b pos) (TS G (y ++ z) (s1 ∧ s2 ∧ y.length + z.length ≤ sizeLine)) :=
  pe_weak (pe_op op_add_str ha hb) fun σ H Q ⟨hg, ⟨h1, h2, h3⟩, w⟩ => ⟨hg, h1, fun H1 S1 => ⟨hG _ _ _ hg S1, h2, fun H2 S2 => ⟨_, _, rfl, rfl, h3, w H2 (S1.trans S2)⟩⟩⟩
theorem pS_lit {y : Str} {k : Nat} : PE X (.Constant (.str y) k pos) (TS G y True) := pe_weak pe_str fun σ H Q ⟨hg, _, z⟩ => z H (Same.refl _)
/-- return e -/
theorem qp_ret {σ : L2.St} {H : Hp} {D : Ends} (hg : G σ H) (hs : s) (z : ∀ p H', Same H H' → PQ H' p n q → D.rt (.ref p) H') : tRet (TP G n q s) D σ H := ⟨hg, hs, z⟩
end
/-- a block whose reading has a number that is known only at its start -/
def tEx {α : Type} (t : α → L2.TS) : L2.TS := fun D σ H => ∃ i, t i D σ H
theorem pss_exT {α : Type} {X : Cx} {st : List Stmt} {t : α → L2.TS} (h : ∀ i, PSs X st (t i)) : PSs X st (tEx t) := pss_ex h
end SQ

/-! Lists of texts. -/
namespace SQ
open PySem PySem.Spec PyProof.Rows L2 SF LamX
theorem ok_app {x y : PySem.Str} (h : PyData.strOk x = true) (k : PyData.strOk y = true) : PyData.strOk (x ++ y) = true := by
  show (x.cps ++ y.cps).all (· < 0x110000) = true
  rw [Array.all_append]
  exact Bool.and_eq_true_iff.mpr ⟨h, k⟩
theorem ch_lt (c : Char) : c.toNat < 0x110000 := by
  rcases c.valid with h | ⟨_, h⟩
  · exact Nat.lt_trans h (by decide)
  · exact h
theorem ok_of (s : String) : PyData.strOk (Str.ofString s) = true := by
  unfold PyData.strOk
  rw [Str.ofString_eq_toList]
  refine Array.all_eq_true.mpr fun i hi => decide_eq_true ?_
  simp only [List.getElem_toArray, List.getElem_map]
  exact ch_lt _
theorem ok_rrepr (q : Rat) : PyData.strOk (rrepr q) = true := by
  unfold rrepr
  exact ok_app (ok_app (ok_app (ok_app (ok_app (by decide +kernel) (ok_of _)) (ok_of _)) (ok_of _)) (ok_of _)) (ok_of _)
theorem eqv_strs : ∀ xs ys : List PySem.Str, PyData.eqvAll (xs.map .str) (ys.map .str) = decide (xs = ys)
  | [], [] => rfl
  | [], _ :: _ => rfl
  | _ :: _, [] => rfl
  | x :: xs, y :: ys => by
    show (x == y && PyData.eqvAll (xs.map .str) (ys.map .str)) = _
    rw [eqv_strs xs ys]
    by_cases h : x = y
    · subst h; simp
    · simp [h]
theorem depth_strs : ∀ xs : List PySem.Str, PyData.depthAll (xs.map .str) = 0
  | [] => rfl
  | x :: xs => by
    show max (PyData.depth (.str x)) (PyData.depthAll (xs.map .str)) = 0
    rw [depth_strs xs]
    rfl
theorem shaped_strs {xs : List PySem.Str} (h : xs.all PyData.strOk = true) : SeqAt.shaped (.list (xs.map .str)) = true := by
  unfold SeqAt.shaped
  refine Bool.and_eq_true_iff.mpr ⟨?_, decide_eq_true ?_⟩
  · show PyData.canLayAll0 (xs.map .str) = true
    rw [canLayAll_strs']
    exact h
  · show PyData.depthAll (xs.map .str) + 1 ≤ 64
    rw [depth_strs]
    decide
theorem dp_strs {K : PySem.W.Frag} {H : Hp} : ∀ xs : List PySem.Str, DpAll K H (xs.map V.str) (xs.map .str)
  | [] => .nil
  | x :: xs => .cons (.str x) (dp_strs xs)
/-- e is a new list of these texts, if s -/
def TL (G : L2.St → Hp → Prop) (xs : List PySem.Str) (s : Prop) : TE := fun σ H Q => G σ H ∧ s ∧ ∀ p H', Same H H' → H' p = some (.lst (xs.map V.str)) → Q (.ref p) H'
def TAS (G : L2.St → Hp → Prop) (xs : List PySem.Str) (s : Prop) : TA := fun σ H Q => G σ H ∧ s ∧ ∀ H', Same H H' → Q (xs.map V.str) H'
section
variable {X : Cx} {G : L2.St → Hp → Prop} {a b e : Expr} {es : List Expr} {s s1 s2 : Prop} {pos : Pos} {x : PySem.Str} {xs ys : List PySem.Str}
theorem vL {C : Addr} (L : List Sl) (j : Nat) (h : PE X e (tVar j)) (hL : L[j]? = some (.ls xs)) : PE X e (TL (Env C L) xs True) :=
  pe_weak h fun σ H Q ⟨hg, _, z⟩ => by
    obtain ⟨o, e1, p, rfl, r⟩ := hg.at hL
    exact ⟨_, e1, z p H (Same.refl _) r⟩
theorem pa_weak {t t' : TA} (h : PA X es t) (i : ∀ σ H Q, t' σ H Q → t σ H Q) : PA X es t' := ⟨fun p pins st σ H Q I x => h.run p pins st σ H Q I (i _ _ _ x)⟩
theorem pas_nil : PA X [] (TAS G [] True) := pa_weak pa_nil fun σ H Q ⟨hg, _, z⟩ => z H (Same.refl _)
theorem pas_cons (hG : GS G) (ha : PE X a (TS G x s1)) (hr : PA X es (TAS G xs s2)) (he : starEach (a :: es) X.env = (false, eval a X.env) :: starEach es X.env := by rfl) : PA X (a :: es) (TAS G (x :: xs) (s1 ∧ s2)) :=
  pa_weak (pa_cons ha hr he) fun σ H Q ⟨hg, ⟨h1, h2⟩, z⟩ => ⟨hg, h1, fun H1 S1 => ⟨hG _ _ _ hg S1, h2, fun H2 S2 => z H2 (S1.trans S2)⟩⟩
theorem pL_lst (h : PA X es (TAS G xs s)) : PE X (.List es pos) (TL G xs (s ∧ xs.length ≤ sizeLine)) :=
  pe_weak (pe_lst h) fun σ H Q ⟨hg, ⟨h1, h2⟩, z⟩ => ⟨hg, h1, fun H1 S1 => ⟨by rw [List.length_map]; exact h2, fun p np => z p _ (same_new S1 np) upd_same⟩⟩
theorem pL_cat (hG : GS G) (ha : PE X a (TL G xs s1)) (hb : PE X b (TL G ys s2)) : PE X (.BinOp a .Add b pos) (TL G (xs ++ ys) (s1 ∧ s2 ∧ xs.length + ys.length ≤ sizeLine)) :=
  pe_weak (pe_op op_cat ha hb) fun σ H Q ⟨hg, ⟨h1, h2, h3⟩, z⟩ => ⟨hg, h1, fun p H1 S1 e1 => ⟨hG _ _ _ hg S1, h2, fun u H2 S2 e2 => ⟨p, u, _, _, rfl, rfl, S2 _ _ e1, e2, (by rw [List.length_map, List.length_map]; exact h3), fun w nw => z w _ (same_new (S1.trans S2) nw) (by rw [upd_same, List.map_append])⟩⟩⟩
theorem pb_neL (hu : X.A.units + 64 < cLine) (hG : GS G) (hm : behindInMarks .NotEq b = false) (ha : PE X a (TL G xs s1)) (hb : PE X b (TL G ys s2)) (hx : xs.all PyData.strOk = true) (hy : ys.all PyData.strOk = true) :
    PE X (.Compare a [.NotEq] [b] pos) (TB G (!decide (xs = ys)) (s1 ∧ s2)) :=
  pe_weak (pe_cmpR (op_neD hu) ha hb hm) fun σ H Q ⟨hg, ⟨h1, h2⟩, z⟩ => ⟨hg, h1, fun p H1 S1 e1 => ⟨hG _ _ _ hg S1, h2, fun u H2 S2 e2 =>
    ⟨_, _, .lst (SqL.of (S2 _ _ e1)) (dp_strs xs), .lst (SqL.of e2) (dp_strs ys), shaped_strs hx, shaped_strs hy, by
      show Q (.bl (!PyData.eqvAll (xs.map .str) (ys.map .str))) H2
      rw [eqv_strs]
      exact z H2 (S1.trans S2)⟩⟩⟩
theorem pb_neLT (hu : X.A.units + 64 < cLine) (hG : GS G) (hm : behindInMarks .NotEq b = false) (ha : PE X a (TL G xs s1)) (hb : PE X b (TL G ys s2)) (hx : xs.all PyData.strOk = true) (hy : ys.all PyData.strOk = true) :
    PT X (.Compare a [.NotEq] [b] pos) (TBt G (!decide (xs = ys)) (s1 ∧ s2)) :=
  pt_weak (pt_cmpR (op_neD hu) ha hb hm) fun σ H Q ⟨hg, ⟨h1, h2⟩, z⟩ => ⟨hg, h1, fun p H1 S1 e1 => ⟨hG _ _ _ hg S1, h2, fun u H2 S2 e2 =>
    ⟨_, _, .lst (SqL.of (S2 _ _ e1)) (dp_strs xs), .lst (SqL.of e2) (dp_strs ys), shaped_strs hx, shaped_strs hy, _, rfl, by
      show Q (!PyData.eqvAll (xs.map .str) (ys.map .str)) H2
      rw [eqv_strs]
      exact z H2 (S1.trans S2)⟩⟩⟩
end
end SQ

/-! Calls by keyword alone: own defs, methods of own instances. -/
namespace SF
open PySem PySem.Spec PyProof.Rows L2
def tCallK (n : Nat) (sp : Sp) (gV : List V → List V → List V) (E : XK) (tk : TA) : TE := fun σ H Q => tk σ H fun zs H1 => zs.length = n ∧ sp (gV [] zs) H1 Q E
def tMethK (C : Addr) (m : Str) (n : Nat) (sp : Sp) (gV : List V → List V → List V) (E : XK) (ta : TE) (tk : TA) : TE := fun σ H Q => ta σ H fun x H1 => ∃ a dx fs, x = .ref a ∧ H1 a = some (.ins C dx fs) ∧ fs.lookup m = none ∧ tk σ H1 fun zs H2 => zs.length = n ∧ sp (gV [x] zs) H2 Q E
section
variable {X : Cx} {CX : CXT} {k n : Nat} {f C : Addr} {fd : FuncData} {ps ks : List Str} {sp : Sp} {E : XK} {x m : Str} {p pos apos : Pos} {o : Expr} {kws : List Keyword} {ta : TE} {tk : TA} {g : List Value → List Value → List Value} {gV : List V → List V → List V}
theorem run_kw {pins : List (Addr × Obj)} {σ : L2.St} {H : Hp} {s : Shared} {Q : VK} {us ws : List Value} {vs zs : List V} (F : FnOk X.prog X.w X.K X.mg X.base CX k f fd ps sp) (hr : Room k X.A) (hb : KBn X.K fd ps n ks g gV) (hx : Passes CX X E)
    (I : Inv X pins σ H s) (r : Vals vs us) (rz : Vals zs ws) (l1 : us.length = n) (l2 : zs.length = ks.length) (h : sp (gV vs zs) H Q E) : wpAny (model X.prog X.w) X.A (call (.ref f) us (ks.zip ws)) (EP X pins σ Q) X.xe s := by
  refine wpAny_call (codeAny_mono (F.run X.A X.stack s H ⟨us, ks.zip ws⟩ (g us ws) (gV vs zs) Q E hr I.env0 (hb.to s us ws I.kIn l1 (rz.length.symm.trans l2)) (hb.rel r rz) h) fun r s' hq => ?_)
  cases r with
  | error e => exact hx pins σ H s e s' I hq
  | ok fl =>
    cases fl with
    | ret u => exact I.after hq
    | next => exact False.elim hq
    | brk => exact False.elim hq
    | cont => exact False.elim hq
/-- x(f = e, ..) -/
theorem pe_callKW (F : FnOk X.prog X.w X.K X.mg X.base CX k f fd ps sp) (hr : Room k X.A) (hg : Gl X x) (hm : X.mg x = some (.ref f)) (hk : PySem.W.keepIn X.K (.ref f) = true) (hb : KBn X.K fd ps 0 ks g gV) (hx : Passes CX X E) (hkw : PK X kws tk)
    (hall : (backToKw pos (keywordEach kws X.env)).all (·.1.isSome) = true := by rfl) (hks : (backToKw pos (keywordEach kws X.env)).filterMap (·.1) = ks := by rfl) (hdb : (x == ("__debug__" : Str)) = false := by decide)
    (hpl : ((backTo pos (starEach [] X.env)).any (·.1) || (backToKw pos (keywordEach kws X.env)).any (·.1.isNone)) = false := by rfl) :
    PE X (.Call (.Name x p) [] kws pos) (tCallK ks.length sp gV E tk) := by
  refine ⟨fun pins s σ H Q I h => ?_⟩
  refine wpAny_Call_Name_kw (ld_glob I hg hm ?_ hdb)
  refine PySem.W.callWith_KW0 (h₀ := X.base) I.ok.mod.kin hk hall ?_ hpl
  refine thn (hkw.run pos pins s σ H _ I h) fun ws s2 ⟨zs, H2, I2, rz, l2, q2⟩ => ⟨I2.kIn, ?_⟩
  rw [hks]
  exact run_kw (us := []) (vs := []) F hr hb hx I2 .nil rz rfl l2 q2
/-- o.m(f = e, ..) -/
theorem pe_methKW {pl : Sem Bool} (he : PE X o ta) (c : Cls X.K C) (hm : Meth X.K C m f) (F : FnOk X.prog X.w X.K X.mg X.base CX k f fd ps sp) (hr : Room k X.A) (hb : KBn X.K fd ps 1 ks g gV) (hx : Passes CX X E) (hkw : PK X kws tk)
    (hall : (backToKw pos (keywordEach kws X.env)).all (·.1.isSome) = true := by rfl) (hks : (backToKw pos (keywordEach kws X.env)).filterMap (·.1) = ks := by rfl)
    (hpl : ((backTo pos (starEach [] X.env)).any (·.1) || (backToKw pos (keywordEach kws X.env)).any (·.1.isNone)) = false := by rfl)
    (ht : eval (.Call (.Attribute o m apos) [] kws pos) X.env = (do
      let ov ← eval o X.env
      standAt apos.atName
      let (f, first) ← holding [ov] (getMethod ov m pl)
      callWith pos f first (backTo pos (starEach [] X.env)) (backToKw pos (keywordEach kws X.env))) := by rfl) :
    PE X (.Call (.Attribute o m apos) [] kws pos) (tMethK C m ks.length sp gV E ta tk) := by
  refine ⟨fun pins s σ H Q I h => ?_⟩
  refine PySem.W.methodCall_KW (pl := pl) (thn (he.run pins s σ H _ I h) fun u s1 ⟨x, H1, I1, rx, a, dx, fs, ex, ea, l, q⟩ => ?_) ht
  subst ex
  obtain rfl : u = Value.ref a := rx
  refine getmeth_ok I1 ea c hm l ?_
  refine PySem.W.callWith_KW0 (first := [.ref a]) (h₀ := X.base) I.ok.mod.kin hm.kp hall ?_ hpl
  refine thn (hkw.run pos pins s1 σ H1 _ I1 q) fun ws s2 ⟨zs, H2, I2, rz, l2, q2⟩ => ⟨I2.kIn, ?_⟩
  rw [hks]
  exact run_kw (us := [.ref a]) (vs := [.ref a]) F hr hb hx I2 (.cons rfl .nil) rz rfl l2 q2
end
end SF

/-! x += y, x an own instance of a class without in-place methods. -/
namespace SFx
open PySem PySem.Spec PySem.W PyProof.Rows PySem.Calls
section
variable {prog : Program} {w : World} {A : Around} {E : Value → Shared → Prop} {s : Shared} {h₀ : Heap} {L : Addr} {m : Str → Option Value} {K : Frag} {x C f : Addr} {ox : Obj} {od : Option Obj} {nm : String}
theorem fillsI_no {M : Model} {h : Heap} {cd : ClassData} {add : Bool} (X : K.In h) (hc : clsIn K C = some cd) (hm : cd.mro = [.ref C, .type "object"]) (h1 : findIn K (.ref C) (dunderI nm) = some none) (h2 : findIn K (.type "object") (dunderI nm) = some none) :
    Looks M h (fillsInplaceSlot (.ref C) nm add) false := by
  intro A Q E s k q
  have Lm : Looks M h (mroOf (.ref C)) cd.mro := (looks_clsIn X hc).andThen (f := fun cd => pure cd.mro) .now
  have Lm' := Lm.keeps k
  obtain ⟨hh, g, d, tt, os⟩ := s
  have X' : K.In hh := X.keeps k
  have L1 : Looks M hh (typeLookup (.ref C) (dunderI nm)) none := looks_findIn X' h1
  have L2 : Looks M hh (typeLookup (.type "object") (dunderI nm)) none := looks_findIn X' h2
  unfold fillsInplaceSlot
  refine wpAny_bind (Lm'.at ?_)
  rw [hm, List.anyM_cons]
  refine wpAny_bind (wpAny_bind (L1.at (wpAny_pure ?_)))
  simp only [Bool.false_eq_true, if_false]
  rw [List.anyM_cons]
  refine wpAny_bind (wpAny_bind (L2.at (wpAny_pure ?_)))
  simp only [Bool.false_eq_true, if_false]
  exact wpAny_pure q
theorem aug_same {op : Operator} {b : Value} {Q : Value → Shared → Prop} (F : Fr h₀ L s.heap m) (X₀ : K.In h₀) (I : InstAt s.heap x ox C od) (hb : Looks (model prog w) s.heap (typeOf b) (.ref C)) {cd : ClassData} (hcd : clsIn K C = some cd) (hm : cd.mro = [.ref C, .type "object"])
    (h1 : findIn K (.ref C) (dunderI op.info.2) = some none) (h2 : findIn K (.type "object") (dunderI op.info.2) = some none)
    (hs : findIn K (.ref C) (PySem.dunder op.info.2) = some (some (.ref f))) (hf : isFn K (.ref f) = true)
    (h : wpAny (model prog w) A (call (.ref f) [.ref x, b]) (PySem.W.CmpBack Q) E s) : wpAny (model prog w) A (inplaceOp op (.ref x) b) Q E s := by
  have X := X₀.keeps F.keep
  refine SF.noI_inplace X I (fillsI_no X hcd hm h1 h2) ?_
  unfold binaryOp1
  refine wpAny_bind (I.type.here (wpAny_bind (hb.here (wpAny_bind ((fills_K X hcd hm hs).here ?_)))))
  simp only [beq_self_eq_true, if_true]
  refine wpAny_bind (wpAny_pure ?_)
  simp only [Bool.and_false, Bool.false_eq_true, if_false, Bool.false_and]
  refine wpAny_bind (wpAny_pure ?_)
  simp only [Bool.false_eq_true, if_false]
  refine wpAny_bind (m := tryMethod (.ref x) _ b) ?_
  unfold tryMethod
  refine wpAny_bind (special_fn X I hs (beq_iff_eq.mp hf) (wpAny_mono h (fun v s' hv => ?_) fun _ _ e => e))
  cases v <;> first | exact hv.elim | exact wpAny_pure (wpAny_pure ⟨_, rfl, hv⟩)
theorem aug_int {op : Operator} {i : Int} {t : Tok} {fo ro rc : Option Value} {Q : Value → Shared → Prop} (F : Fr h₀ L s.heap m) (X₀ : K.In h₀) (I : InstAt s.heap x ox C od) {cd : ClassData} (hcd : clsIn K C = some cd) (hm : cd.mro = [.ref C, .type "object"])
    (n1 : findIn K (.ref C) (dunderI op.info.2) = some none) (n2 : findIn K (.type "object") (dunderI op.info.2) = some none)
    (hs : findIn K (.ref C) (PySem.dunder op.info.2) = some (some (.ref f))) (hf : isFn K (.ref f) = true) (hr : findIn K (.ref C) (dunderR op.info.2) = some rc) (hp : rc = none ∨ ∃ g : Addr, rc = some (.ref g))
    (h1 : findIn K (.type "int") (PySem.dunder op.info.2) = some fo) (h2 : findIn K (.type "int") (dunderR op.info.2) = some ro) (hsub : subIn K (.type "int") (.ref C) = some false)
    (h : wpAny (model prog w) A (call (.ref f) [.ref x, .int i t]) (PySem.W.CmpBack Q) E s) : wpAny (model prog w) A (inplaceOp op (.ref x) (.int i t)) Q E s := by
  have X := X₀.keeps F.keep
  refine SF.noI_inplace X I (fillsI_no X hcd hm n1 n2) ?_
  generalize op.info.2 = nm' at hs hr h1 h2
  have one := ksp_try X I hs hf h
  obtain ⟨hh, g, d, tt, os⟩ := s
  have a1 : Looks (model prog w) hh (typeOf (.ref x)) (.ref C) := I.type
  have a2 : Looks (model prog w) hh (typeOf (.int i t)) (.type "int") := Looks.of_pure rfl
  have a3 : Looks (model prog w) hh (fillsNumberSlot (.ref C) nm') true := fills_K X hcd hm hs
  have a4 : Looks (model prog w) hh (fillsNumberSlot (.type "int") nm') ((fo.isSome && !isSeqSlot fo) || (ro.isSome && !isSeqSlot ro)) := ksp_fillsT X h1 h2
  have a5 : Looks (model prog w) hh (isSubtype (.type "int") (.ref C)) false := looks_subIn X hsub
  have a6 : Looks (model prog w) hh (numberSlotInPython (.ref C) nm') true := ksp_inPy X hs hr hp
  have a7 : Looks (model prog w) hh (numberSlotInPython (.type "int") nm') false := Looks.of_pure rfl
  have a8 : Looks (model prog w) hh (typeLookup (.type "int") (dunderR nm')) ro := looks_findIn X h2
  generalize ((fo.isSome && !isSeqSlot fo) || (ro.isSome && !isSeqSlot ro)) = right at a4
  have hne : (Value.ref C == Value.type "int") = false := Bool.eq_false_iff.mpr fun q => by cases beq_iff_eq.mp q
  unfold binaryOp1
  refine wpAny_bind (a1.at (wpAny_bind (a2.at (wpAny_bind (a3.at ?_)))))
  simp only [hne, Bool.false_eq_true, if_false]
  cases right <;>
    (ksp_lk
     refine wpAny_mono one (fun r s' hr' => ?_) fun _ _ e => e
     obtain ⟨v, rfl, hq⟩ := hr'
     ksp_lk
     exact ⟨_, rfl, hq⟩)
end
end SFx
namespace SF
open PySem PySem.Spec PyProof.Rows L2
/-- no in-place method -/
structure NoAug (K : PySem.W.Frag) (C : Addr) (op : Operator) : Prop where
  mro : ∃ cd, PySem.W.clsIn K C = some cd ∧ cd.mro = [.ref C, .type "object"]
  n1 : PySem.W.findIn K (.ref C) (dunderI op.info.2) = some none
  n2 : PySem.W.findIn K (.type "object") (dunderI op.info.2) = some none
section
variable {X : Cx} {CX : CXT} {n : Nat} {C f : Addr} {fd : FuncData} {ps : List Str} {sp : Sp} {E : XK}
/-- x op= y -/
theorem aug_OB {op : Operator} (N : NoAug X.K C op) (O : OwnOp X.K C op f) (F : FnOk X.prog X.w X.K X.mg X.base CX n f fd ps sp) (hb : Binds X.K fd ps []) (hr : Room n X.A) (hx : Passes CX X E) : PIp X op (rOB C sp E) := by
  intro pins s σ H x y v u Q I rx ry h
  obtain ⟨⟨a, dx, fs, rfl, ha⟩, hy, q⟩ := h
  cases (show v = Value.ref a from rx)
  obtain ⟨od, J⟩ := inst_of I ha
  obtain ⟨m, hF⟩ := I.fr
  obtain ⟨cd, hcd, hm⟩ := N.mro
  have run : wpAny (model X.prog X.w) X.A (call (.ref f) [.ref a, u]) (PySem.W.CmpBack (fun w s' => EP X pins σ Q w s')) X.xe s := by
    refine wpAny_mono (run_fn (us := [.ref a, u]) (vs := [.ref a, y]) (dvs := []) (ds := []) F hr hb .nil hx I (.cons rfl (.cons ry .nil)) (by simpa using q)) (fun w s' z => ?_) fun _ _ x => x
    obtain ⟨z', H', I', rz, qz⟩ := z
    exact SlX.cmpback rz ⟨z', H', I', rz, qz⟩
  rcases hy with ⟨b, dy, gs, rfl, hb'⟩ | ⟨i, rfl⟩
  · cases (show u = Value.ref b from ry)
    obtain ⟨od', J'⟩ := inst_of I hb'
    exact SFx.aug_same hF I.ok.mod.kin J J'.type hcd hm N.n1 N.n2 O.hs O.hf run
  · obtain ⟨t, e⟩ := (show ∃ t, u = Value.int i t from ry)
    cases e
    obtain ⟨rc, hrc, hp⟩ := O.hr
    obtain ⟨fo, h1⟩ := O.h1
    obtain ⟨ro, h2⟩ := O.h2
    exact SFx.aug_int hF I.ok.mod.kin J hcd hm N.n1 N.n2 O.hs O.hf hrc hp h1 h2 O.hsub run
end
end SF

/-! Tests of what was told or caught. -/
namespace SQ
open PySem PySem.Spec PyProof.Rows L2 SF LamX
/-- a test whose answer is known, behind which tables of code objects may have grown -/
def TCt (T : List (Addr × PySem.Str)) (G : L2.St → Hp → Prop) (b : Bool) (s : Prop) : TT := fun σ H Q => G σ H ∧ Tabs T H ∧ s ∧ ∀ H', ExtN H H' → Tabs T H' → Q b H'
section
variable {X : Cx} {T : List (Addr × PySem.Str)} {G : L2.St → Hp → Prop} {a b : Expr} {s1 s2 : Prop} {pos : Pos} {w x : PySem.Str} {ys : List PySem.Str} {b1 b2 : Bool} {rest : List Expr}
theorem ext_tabs {H H' : Hp} (t : Tabs T H) (s : Same H H') : Tabs T H' := t.ext s
/-- _law_caught(..) != e -/
theorem pc_neT (hu : X.A.units + 64 < cLine) (hG : GN G) (hm : behindInMarks .NotEq b = false) (ha : PE X a (TC T G w x s1)) (hb : PE X b (TL G ys s2)) (hx : [w, x].all PyData.strOk = true) (hy : ys.all PyData.strOk = true) :
    PT X (.Compare a [.NotEq] [b] pos) (TCt T G (!decide ([w, x] = ys)) (s1 ∧ s2)) :=
  pt_weak (pt_cmpR (op_neD hu) ha hb hm) fun σ H Q ⟨hg, hT, ⟨h1, h2⟩, z⟩ => ⟨hg, hT, h1, fun p H1 S1 T1 e1 => ⟨hG _ _ _ hg S1, h2, fun u H2 S2 e2 =>
    ⟨_, _, .lst (SqL.of (S2 _ _ e1)) (dp_strs [w, x]), .lst (SqL.of e2) (dp_strs ys), shaped_strs hx, shaped_strs hy, _, rfl, by
      show Q (!PyData.eqvAll ([w, x].map .str) (ys.map .str)) H2
      rw [eqv_strs]
      exact z H2 (S1.trans (ExtN.of S2)) (T1.ext S2)⟩⟩⟩
theorem pc_or1 (ha : PT X a (TCt T G b1 s1)) : PW X (.BoolOp .Or [a] pos) (TCt T G b1 s1) := pw_or1 ha
theorem pc_and1 (ha : PT X a (TCt T G b1 s1)) : PW X (.BoolOp .And [a] pos) (TCt T G b1 s1) := pw_and1 ha
theorem pc_or (hG : GN G) (ha : PT X a (TCt T G b1 s1)) (hb : PW X (.BoolOp .Or (b :: rest) pos) (TBt G b2 s2)) : PW X (.BoolOp .Or (a :: b :: rest) pos) (TCt T G (b1 || b2) (s1 ∧ (b1 = false → s2))) :=
  pw_weak (pw_or ha hb) fun σ H Q ⟨hg, hT, ⟨h1, h2⟩, z⟩ => ⟨hg, hT, h1, fun H1 S1 T1 => by
    cases b1 with
    | true => exact iteT (by simpa using z H1 S1 T1)
    | false => exact iteF ⟨hG _ _ _ hg S1, h2 rfl, fun H2 S2 => by simpa using z H2 (S1.trans (ExtN.of S2)) (T1.ext S2)⟩⟩
theorem pc_and (hG : GS G) (ha : PT X a (TBt G b1 s1)) (hb : PW X (.BoolOp .And (b :: rest) pos) (TCt T G b2 s2)) : PW X (.BoolOp .And (a :: b :: rest) pos) (TCt T G (b1 && b2) (s1 ∧ (b1 = true → s2))) :=
  pw_weak (pw_and ha hb) fun σ H Q ⟨hg, hT, ⟨h1, h2⟩, z⟩ => by
    refine ⟨hg, h1, fun H1 S1 => ?_⟩
    cases b1 with
    | false => exact iteF (by simpa using z H1 (ExtN.of S1) (hT.ext S1))
    | true => exact iteT ⟨hG _ _ _ hg S1, hT.ext S1, h2 rfl, fun H2 S2 T2 => by simpa using z H2 ((ExtN.of S1).trans S2) T2⟩
end
end SQ

/-! Comprehensions of texts over lists whose items are known by slots. -/
namespace SQ
open PySem PySem.Spec PyProof.Rows L2 SF LamX
def tExE {α : Type} (t : α → TE) : TE := fun σ H Q => ∃ i, t i σ H Q
theorem pe_exT {α : Type} {X : Cx} {e : Expr} {t : α → TE} (h : ∀ i, PE X e (t i)) : PE X e (tExE t) := ⟨fun pins s σ H Q I ⟨i, z⟩ => (h i).run pins s σ H Q I z⟩
theorem Env.set {C : Addr} {z : Sl} {w : V} {H : Hp} : ∀ {L : List Sl} {σ : L2.St} {j : Nat}, Env C L σ H → z.ok C H (some w) → Env C (L.set j z) (σ.set j (some w)) H
  | [], σ, j, h, k => trivial
  | _ :: L, [], j, h, k => h.elim
  | _ :: L, _ :: σ, 0, h, k => ⟨k, h.2⟩
  | _ :: L, _ :: σ, j + 1, h, k => ⟨h.1, Env.set h.2 k⟩
theorem Env.setAny {C : Addr} {o : Option V} {H : Hp} : ∀ {L : List Sl} {σ : L2.St} {j : Nat}, Env C L σ H → L[j]? = some .any → Env C L (σ.set j o) H
  | [], σ, j, h, k => trivial
  | _ :: L, [], j, h, k => h.elim
  | _ :: L, _ :: σ, 0, h, k => by cases k; exact ⟨trivial, h.2⟩
  | _ :: L, _ :: σ, j + 1, h, k => ⟨h.1, Env.setAny h.2 k⟩
/-- e is a thing of this slot -/
def TSl (C : Addr) (G : L2.St → Hp → Prop) (z : Sl) (s : Prop) : TE := fun σ H Q => G σ H ∧ s ∧ ∀ w H', Same H H' → z.ok C H' (some w) → Q w H'
def Oks (C : Addr) (H : Hp) (sl : List Sl) (ws : List V) : Prop := ws.length = sl.length ∧ ∀ (t : Nat) (z : Sl) (w : V), sl[t]? = some z → ws[t]? = some w → z.ok C H (some w)
def TAsl (C : Addr) (G : L2.St → Hp → Prop) (sl : List Sl) (s : Prop) : TA := fun σ H Q => G σ H ∧ s ∧ ∀ ws H', Same H H' → Oks C H' sl ws → Q ws H'
def TLs (C : Addr) (G : L2.St → Hp → Prop) (sl : List Sl) (s : Prop) : TE := fun σ H Q => G σ H ∧ s ∧ ∀ p ws H', Same H H' → H' p = some (.lst ws) → Oks C H' sl ws → Q (.ref p) H'
theorem Oks.same {C : Addr} {H H' : Hp} {sl : List Sl} {ws : List V} (h : Oks C H sl ws) (S : Same H H') : Oks C H' sl ws := ⟨h.1, fun t z w a b => Sl.same (h.2 t z w a b) S⟩
theorem Oks.cons {C : Addr} {H : Hp} {z : Sl} {w : V} {sl : List Sl} {ws : List V} (h : z.ok C H (some w)) (r : Oks C H sl ws) : Oks C H (z :: sl) (w :: ws) :=
  ⟨by rw [List.length_cons, List.length_cons, r.1], fun t => match t with
    | 0 => fun z w a b => by cases a; cases b; exact h
    | t + 1 => fun z w a b => r.2 t z w a b⟩
section
variable {X : Cx} {C : Addr} {G : L2.St → Hp → Prop} {a e : Expr} {es : List Expr} {s s1 s2 : Prop} {pos : Pos} {z : Sl} {sl : List Sl} {n : Nat} {q : Rat} {i : Int} {L : List Sl}
theorem sl_i (h : PE X e (TI G i s)) : PE X e (TSl C G (.i i) s) := pe_weak h fun σ H Q ⟨hg, h1, w⟩ => ⟨hg, h1, fun H' S => w _ H' S rfl⟩
theorem sl_p (h : PE X e (TP G n q s)) : PE X e (TSl C G (.pr n q) s) := pe_weak h fun σ H Q ⟨hg, h1, w⟩ => ⟨hg, h1, fun p H' S r => w _ H' S ⟨p, rfl, r⟩⟩
theorem psl_nil : PA X [] (TAsl C G [] True) := pa_weak pa_nil fun σ H Q ⟨hg, _, z⟩ => z [] H (Same.refl _) ⟨rfl, fun t z w a => by cases a⟩
theorem psl_cons (hG : GS G) (ha : PE X a (TSl C G z s1)) (hr : PA X es (TAsl C G sl s2)) (he : starEach (a :: es) X.env = (false, eval a X.env) :: starEach es X.env := by rfl) : PA X (a :: es) (TAsl C G (z :: sl) (s1 ∧ s2)) :=
  pa_weak (pa_cons ha hr he) fun σ H Q ⟨hg, ⟨h1, h2⟩, k⟩ => ⟨hg, h1, fun w H1 S1 kw => ⟨hG _ _ _ hg S1, h2, fun ws H2 S2 kws => k _ H2 (S1.trans S2) (.cons (Sl.same kw S2) kws)⟩⟩
theorem pls_lst (h : PA X es (TAsl C G sl s)) : PE X (.List es pos) (TLs C G sl (s ∧ sl.length ≤ sizeLine)) :=
  pe_weak (pe_lst h) fun σ H Q ⟨hg, ⟨h1, h2⟩, z⟩ => ⟨hg, h1, fun ws H1 S1 k => ⟨by have e := k.1; omega, fun p np => z p ws _ (same_new S1 np) upd_same (k.same (same_new (Same.refl _) np))⟩⟩
/-- [elt for y in iter]: a list of texts -/
theorem pL_comp {elt tg iter : Expr} {scope : Scope} {y : Str} {j : Nat} {xs : List Str} {se : Nat → Prop} (hc : X.calm = true) (hN : X.N.Nodup) (hi : PE X iter (TLs C G sl s)) (ok : BlkOk X.N X.env.scope scope [(y, j)]) (hGL : ∀ σ H, G σ H → Env C L σ H) (hG : GS G) (hL : L[j]? = some .any) (hlen : xs.length = sl.length)
    (hg : ∀ (s : Shared) (H : Hp) (C : Addr) (cl : List (Str × Addr)) (fp : List Addr), PG (X.blk s H scope (compEnvC scope cl C X.env) fp) tg (gName j))
    (he : ∀ (t : Fin sl.length) (s : Shared) (H : Hp) (D : Addr) (cl : List (Str × Addr)) (fp : List Addr), PE (X.blk s H scope (compEnvC scope cl D X.env) fp) elt (TS (Env C (L.set j sl[t.1])) (xs[t.1]'(by rw [hlen]; exact t.2)) (se t.1)))
    (hs : ∀ x, foldedSetIterable iter X.env x = pure x := by intro _; rfl) :
    PE X (.ListComp elt [⟨tg, iter, [], 0⟩] scope pos) (TL (fun _ _ => True) xs True |> fun _ => fun σ H Q => G σ H ∧ (s ∧ (∀ t, t < sl.length → se t) ∧ sl.length ≤ sizeLine) ∧ ∀ p H', Same H H' → H' p = some (.lst (xs.map V.str)) → Q (.ref p) H') := by
  refine pe_weak (pe_lc hc hN (pi_list hi) ok hg (fun _ _ _ _ _ => pts_nil) (fun s H D cl fp => pe_exT fun t => he t s H D cl fp) hs) ?_
  rintro σ H Q ⟨hg', ⟨h1, h2, h3⟩, z⟩
  refine ⟨hg', h1, fun p ws H1 S1 e1 kw => ⟨p, rfl, ⟨_, SqL.of e1⟩, fun D hD => lc_list (a := p) (xs := ws) (fun k H2 => Same H1 H2 ∧ H2 D = some (.lst ((xs.take k).map V.str))) ⟨same_new (Same.refl _) hD, upd_same⟩ (fun k H2 _ ⟨S, _⟩ => SqL.of (S _ _ e1)) (fun k w H2 hk ⟨S2, g2⟩ => ?_) (fun H2 ⟨S2, g2⟩ => ?_)⟩⟩
  · have hkl : k < sl.length := by rw [← kw.1]; exact (List.getElem?_eq_some_iff.mp hk).1
    refine ⟨by simp [wipe, List.set_set], ⟨k, hkl⟩, ?_, h2 k hkl, fun H4 S4 => ⟨_, S4 _ _ g2, ?_, ?_, ?_⟩⟩
    · have ev := hGL _ _ (hG _ _ _ hg' (S1.trans S2))
      have kz : (sl[k]).ok C H2 (some w) := Sl.same (kw.2 k _ w (List.getElem?_eq_getElem hkl) hk) S2
      exact Env.set (Env.setAny ev hL) kz
    · rw [List.length_map, List.length_take]
      exact Nat.lt_of_lt_of_le (by omega) h3
    · intro b o e
      have nb : b ≠ D := ne_of_none e hD
      rw [upd_ne nb]
      exact S4 _ _ (S2 _ _ e)
    · rw [upd_same, List.take_add_one, List.getElem?_eq_getElem (by rw [hlen]; exact hkl), List.map_append]
      rfl
  · have hz : H2 D = some (.lst (xs.map V.str)) := by
      rw [kw.1, ← hlen, List.take_length] at g2
      exact g2
    exact z D H2 (S1.trans S2) hz
end
end SQ

/-! repr of a tuple of own instances, also where an error is in hand. -/
namespace SFx
open PySem PySem.Spec PyProof.Rows PySem.W
section
variable {prog : Program} {w : World} {A : Around} {E : Value → Shared → Prop} {s : Shared} {K : Frag} {x C f : Addr} {ox : Obj} {od : Option Obj}
/-- a special method of an own instance, by whatever runs it last -/
theorem boundBy_fn {M : Model} {name : Str} {last : Value → List Value → Sem Value} {Q : Option Value → Shared → Prop} (X : K.In s.heap) (I : InstAt s.heap x ox C od) (hs : findIn K (.ref C) name = some (some (.ref f))) (hf : isFn K (.ref f) = true)
    (h : wpAny M A (last (.ref f) [.ref x]) (fun v => Q (some v)) E s) : wpAny M A (callSpecialIfBoundBy? last (.ref x) name) Q E s := by
  simp only [callSpecialIfBoundBy?, bindSpecialIfBound?]
  refine wpAny_holding (wpAny_bind (wpAny_bind (wpAny_bind (I.type.here ((looks_findIn X hs).here ?_)))))
  refine wpAny_bind (wpAny_askSetting (wpAny_ite ?_))
  have fin : wpAny M A (last (.ref f) [.ref x] >>= fun v => pure (some v)) Q E s := wpAny_bind (wpAny_mono h (fun v s' h' => wpAny_pure h') fun _ _ h' => h')
  split
  · exact wpAny_bind ((bind_fn X _ (beq_iff_eq.mp hf)).here (wpAny_pure (by exact fin)))
  · exact wpAny_tryCatch (wpAny_bind ((bind_fn X _ (beq_iff_eq.mp hf)).here (wpAny_pure (by exact fin))))
/-- repr of an own instance below another repr -/
theorem under_own {Q : Str → Shared → Prop} {b : Nat} (hb : b ≤ sizeLine) (hu : A.units < cLine) (X : K.In s.heap) (I : InstAt s.heap x ox C od) (hs : findIn K (.ref C) "__repr__" = some (some (.ref f))) (hf : isFn K (.ref f) = true)
    (h : wpAny (model prog w) A (call (.ref f) [.ref x]) (fun v s' => ∃ y t, v = .str y t ∧ Q y s') E s) : wpAny (model prog w) A (pyReprUnder b (.ref x)) Q E s := by
  refine wpAny_pyReprUnder_ref hb ?_
  unfold pyReprObjUnder pyReprObjBy
  refine wpAny_bind (wpAny_cRoomFor hu ?_)
  refine wpAny_bind (wpAny_bind (I.type.here ((looks_findIn X hs).here ?_)))
  show wpAny _ _ (if (some (Value.ref f)).isNone = true then _ else _) _ _ _
  rw [if_neg (by simp)]
  refine wpAny_bind (m := callSpecialIfBoundBy? _ (.ref x) (Str.ofString "__repr__")) (boundBy_fn X I hs hf ?_)
  show wpAny _ _ (call (.ref f) ([.ref x] ++ [])) _ _ _
  rw [List.append_nil]
  refine wpAny_mono h (fun v s' hv => ?_) fun _ _ e => e
  obtain ⟨y, t, rfl, hq⟩ := hv
  refine wpAny_bind (wpAny_isInstance (typeIs_str _ _ _) isSubtype_str_str ?_)
  first
    | exact wpAny_pure ⟨_, _, rfl, hq⟩
    | (rw [if_pos rfl]; exact wpAny_pure ⟨_, _, rfl, hq⟩)
    | (simp only [if_true]; exact wpAny_pure ⟨_, _, rfl, hq⟩)
end
end SFx
namespace SFx
open PySem PySem.Spec PyProof.Rows PySem.W PySem.Builtin
section
variable {prog : Program} {w : World}
/-- repr of u below other reprs is t, and what J says stays -/
def ItemJ (prog : Program) (w : World) (A : Around) (E : Value → Shared → Prop) (J : Shared → Prop) (u : Value) (t : Str) : Prop :=
  ∀ (b : Nat) (s : Shared) (Q : Str → Shared → Prop), b + t.length ≤ sizeLine → J s → (∀ s', J s' → Q t s') → wpAny (model prog w) A (pyReprUnder b u) Q E s
inductive ItemsJ (prog : Program) (w : World) (A : Around) (E : Value → Shared → Prop) (J : Shared → Prop) : List Value → List Str → Prop
  | nil : ItemsJ prog w A E J [] []
  | cons {u : Value} {t : Str} {us : List Value} {ts : List Str} : ItemJ prog w A E J u t → ItemsJ prog w A E J us ts → ItemsJ prog w A E J (u :: us) (t :: ts)
variable {A : Around} {E : Value → Shared → Prop} {J : Shared → Prop}
theorem ItemsJ.len {us : List Value} {ts : List Str} (h : ItemsJ prog w A E J us ts) : ts.length = us.length := by
  induction h with
  | nil => rfl
  | cons _ _ ih => simp [ih]
theorem foldJ {us : List Value} {ts : List Str} (h : ItemsJ prog w A E J us ts) : ∀ (acc : Array Str) (n : Nat) (s : Shared) (Q : (Array Str × Nat) → Shared → Prop), n + piled ts ≤ sizeLine → J s → (∀ s', J s' → Q ⟨acc ++ ts.toArray, n + piled ts⟩ s') →
    wpAny (model prog w) A (forIn us (⟨acc, n⟩ : (Array Str × Nat)) tupBody) Q E s := by
  induction h with
  | nil =>
    intro acc n s Q _ j k
    simp only [List.forIn_nil]
    exact wpAny_pure (by simpa [piled] using k s j)
  | @cons u t us ts hu _ ih =>
    intro acc n s Q hn j k
    rw [piled_cons] at hn
    rw [List.forIn_cons]
    refine wpAny_bind (wpAny_bind (hu (n + 1) s _ (by omega) j fun s1 j1 => wpAny_pure ?_))
    refine ih (acc.push t) (n + (t.length + 2)) s1 Q (by omega) j1 fun s2 j2 => ?_
    have k2 := k s2 j2
    have e : n + piled (t :: ts) = n + (t.length + 2) + piled ts := by rw [piled_cons]; omega
    rw [e] at k2
    simpa using k2
theorem tupOwnJ {a : Addr} {o : Obj} {items : Array Value} {n : Nat} {ts : List Str} {g : List Code} {s : Shared} {R : Result → Shared → Prop} {base : Nat} {id : String} {rest : List Value}
    (hd : o.data = .seq items n) (ho : s.heap.get? a = some o) (ht : ∀ (s : Shared) (k : Nat), J s → J { s with toks := k }) (hcg : (Code.builtin id ⟨.ref a :: rest, []⟩).isGuard = true) (hg : A.guards = some g) (hca : Clear g a)
    (hT : ItemsJ prog w (A.under (.builtin id ⟨.ref a :: rest, []⟩)) (fun e s' => R (.error e) s') J items.toList ts) (j : J s) (hR : ∀ s' u, J s' → R (.ok (.ret (.str (tupleText ts) u))) s') (hsz : base + (tupleText ts).length ≤ sizeLine) :
    wpOwn (model prog w) A (.builtin id ⟨.ref a :: rest, []⟩) (Builtin.tupleReprAt base ⟨[.ref a], []⟩) (fun fin s' => match fin with | .done f => R (.ok f) s' | .again c' => c'.quiet = true ∧ codeAny (model prog w) A c' R s') (fun e s' => R (.error e) s') s := by
  have hlen : ts.length = items.size := by simpa using hT.len
  have hp := piled_le_tupleText ts
  have hsz0 : (tupleText ts).length ≤ sizeLine := by omega
  rw [tuple_repr_tree, tupleReprUnderWay_eq]
  refine wpOwn_bind (wpOwn_stackTailAny hg (tupGuardF_off _) (tupGuardF_pos _) ?_)
  have hn : (g.any fun c => tupGuardF (.ref a) (c, default)) = false := by
    rw [List.any_eq_false]
    intro c hcm
    rw [tupGuardF_of_clear hca c hcm]
    exact Bool.false_ne_true
  rw [hn]
  refine wpOwn_of_wpAny ?_
  show wpAny _ _ (tupleReprRest base (.ref a)) _ _ s
  unfold tupleReprRest Builtin.Tuple.tupleItemsOf
  refine wpAny_bind (wpAny_bind (wpAny_seqItems ho hd (wpAny_pure ?_)))
  rw [← Array.forIn_toList]
  refine wpAny_bind (foldJ hT _ _ _ _ (by omega) j fun s1 j1 => ?_)
  refine wpAny_bind (wpAny_mkStr (wpAny_pure ?_) (by simpa [tupleText, hlen] using hsz0))
  have h1 := hR _ s1.toks (ht s1 (s1.toks + 1) j1)
  simpa [tupleText, hlen] using h1
/-- tuple.__repr__ -/
theorem call_tupJ {a : Addr} {o : Obj} {items : Array Value} {n : Nat} {ts : List Str} {g : List Code} {s : Shared} {Q : Value → Shared → Prop}
    (hc : o.cls = .type "tuple") (hd : o.data = .seq items n) (ho : s.heap.get? a = some o) (ht : ∀ (s : Shared) (k : Nat), J s → J { s with toks := k }) (hg : A.guards = some g) (hca : Clear g a)
    (hT : ItemsJ prog w (A.under (.builtin "tuple.__repr__" ⟨[.ref a], []⟩)) E J items.toList ts) (j : J s) (hQ : ∀ s' u, J s' → Q (.str (tupleText ts) u) s') (hsz : (tupleText ts).length ≤ sizeLine) :
    wpAny (model prog w) A (call (.builtin "tuple.__repr__") [.ref a]) Q E s :=
  wpAny_call (codeAny_call_builtin_own (Code.quiet_builtin _ (by decide +kernel)) F.entry_tuple_repr (F.slot_tuple_repr.check _ _ _ _ _ _ _ _ ⟨o, ho, hc⟩ (F.args_tuple_repr_1 _)
    (tupOwnJ (base := 0) (R := callEnd Q E) hd ho ht (isGuard_tuple_repr _) hg hca hT j hQ (by omega))))
/-- the same below another repr -/
theorem under_tupJ {a : Addr} {ts : List Str} {g : List Code} (hu : A.units < cLine) (ht : ∀ (s : Shared) (k : Nat), J s → J { s with toks := k }) (hg : A.guards = some g) (hca : Clear g a)
    (hJ : ∀ s, J s → ∃ (o : Obj) (items : Array Value) (n : Nat), s.heap.get? a = some o ∧ o.cls = .type "tuple" ∧ o.data = .seq items n ∧ ∀ b : Nat, ItemsJ prog w (A.under (.builtin "tuple.__repr__.under" ⟨[.ref a, rawInt b], []⟩)) E J items.toList ts) : ItemJ prog w A E J (.ref a) (tupleText ts) := by
  intro b s Q hb j k
  obtain ⟨o, items, n, ho, hc, hd, hT⟩ := hJ s j
  refine wpAny_pyReprUnder_ref (by omega) (wpAny_pyReprObjUnder_twin (twin := "tuple.__repr__.under") ⟨o, ho, hc⟩ F.slot_tuple_repr rfl hu ?_)
  exact call_twin_own (F.quiet_tuple_repr_under _) F.entry_tuple_repr_under F.check_tuple_repr_under ⟨o, ho, hc⟩ F.slot_tuple_repr (F.args_tuple_repr_1 _)
    (tupOwnJ (R := callEnd _ E) hd ho ht (isGuard_tuple_repr_under _) hg hca (hT b) j (fun s' u j' => ⟨⟨_, _, rfl⟩, _, _, rfl, k s' j'⟩) hb)
end
end SFx
namespace SF
open PySem PySem.Spec PyProof.Rows L2 SFT L2H
/-- a def that runs in any surroundings of the context -/
def RunAny (X : Cx) (k : Nat) (f : Addr) (sp : Sp) (E : XK) : Prop := ∀ (A : Around) (pins : List (Addr × Obj)) (σ : L2.St) (H : Hp) (s : Shared) (Q : VK) (us : List Value) (vs : List V), A.frames = X.A.frames → A.handled = X.A.handled → RoomH k A →
  Inv X pins σ H s → Vals vs us → sp vs H Q E → wpAny (model X.prog X.w) A (call (.ref f) us) (EP X pins σ Q) X.xe s
theorem runAny_of {X : Cx} {CX : CXT} {n : Nat} {f : Addr} {fd : FuncData} {ps : List Str} {sp : Sp} {E : XK} (F : FnOk X.prog X.w X.K X.mg X.base CX n f fd ps sp) (hb : Binds X.K fd ps []) (hx : Passes CX X E) (hh : X.A.handled = none) : RunAny X n f sp E :=
  fun A pins σ H s Q us vs hA hd hr I r h => run_fnA F ⟨hd.trans hh, hr.dp, hr.un⟩ hA hb hx I r h
theorem frames_u {A : Around} {c : Code} (h : c.envs = []) : (A.under c).frames = A.frames := by
  unfold Around.under
  show pushEnvs c.envs A.frames = _
  rw [h]
  cases A.frames <;> rfl
section
variable {X : Cx} {C f : Addr} {k : Nat} {sp : Sp} {E : XK}
/-- what repr makes of v within containers: a builtin thing, or an instance whose __repr__ gives it -/
def Shw (C : Addr) (sp : Sp) (E : XK) (H : Hp) (v : V) (y : Str) : Prop := ∃ a dx fs, v = .ref a ∧ H a = some (.ins C dx fs) ∧ ∀ Q : VK, Q (.str y) H → sp [.ref a] H Q E
def rTupOwn (C : Addr) (sp : Sp) (E : XK) : List V → Hp → VK → Prop := fun xs H Q => ∃ (p : Addr) (v : V) (y : Str), xs = [V.ref p] ∧ H p = some (.tup [v]) ∧ Shw C sp E H v y ∧ (tupleText [y]).length ≤ sizeLine ∧ Q (.str (tupleText [y])) H
theorem depth_tr {A : Around} {args : Args} : (A.under (.builtin "tuple.__repr__" args)).depth = A.depth + 1 := by
  first | rfl | simp [Around.under, Code.weight, Code.isCreation, Code.isGuard, Code.isCaller, Code.frames, Code.isFrame, guardIds]
theorem handled_u {A : Around} {c : Code} : (A.under c).handled = A.handled := rfl
theorem call_reprTup (hg : X.A.guards = some []) (hr : RoomH (k + 2) X.A) (hs : PySem.W.findIn X.K (.ref C) "__repr__" = some (some (.ref f))) (hf : PySem.W.isFn X.K (.ref f) = true) (R : RunAny X k f sp E) : CallR X (.builtin "repr") (rTupOwn C sp E) := by
  intro pins s σ H xs us Q I r h
  obtain ⟨p, v, y, rfl, ep, ⟨a, dx, fs, rfl, ea, hq⟩, hz, q⟩ := h
  obtain ⟨u, rfl, ru⟩ := r.one
  cases (show u = Value.ref p from ru)
  obtain ⟨_, its, rv, o, e1, e2, m, e3⟩ := (show ObjOk X.prog X.w H s.heap p (.tup [.ref a]) from I.hok p _ ep)
  obtain ⟨u1, rfl, r1⟩ := rv.one
  cases (show u1 = Value.ref a from r1)
  have hu := hr.un
  refine call_repr_slot (by omega) ⟨o, e1, e2⟩ F.slot_tuple_repr ?_
  refine SFx.call_tupJ (J := fun s' => Inv X pins σ H s') (g := []) e2 e3 e1 (fun s' t I' => I'.tok _) hg (Clear.nil _) (.cons (fun b s' Q' hb I' k' => ?_) .nil) I (fun s' t I' => ⟨_, _, rfl, .str _, H, I', ⟨t, rfl⟩, q⟩) hz
  obtain ⟨od, J'⟩ := inst_of I' ea
  refine SFx.under_own (by omega) ?_ I'.kIn J' hs hf ?_
  · rw [units_under_tuple_repr]
    show X.A.units + 1 + 1 < cLine
    omega
  · refine wpAny_mono (R _ pins σ H s' (fun v H' => v = .str y ∧ H' = H) [.ref a] [.ref a] (frames_u rfl) rfl ⟨?_, ?_⟩ I' (.cons rfl .nil) (hq _ ⟨rfl, rfl⟩)) (fun v s2 z => ?_) fun _ _ e => e
    · have := hr.dp
      have hd := depth_tr (A := X.A.in1) (args := ⟨[.ref p], []⟩)
      have h1 : X.A.in1.depth = X.A.depth := rfl
      omega
    · rw [units_under_tuple_repr]
      show X.A.units + 1 + 1 + 16 * k + 200 < cLine
      omega
    · obtain ⟨v', H', I2, rv2, rfl, rfl⟩ := z
      obtain ⟨t, rfl⟩ := (show ∃ t, v = Value.str y t from rv2)
      exact ⟨y, t, rfl, k' s2 I2⟩
end
end SF
namespace SFT
open PySem PySem.Spec PyProof.Rows L2 SF L2H
structure FnQ (P : Program) (w : World) (K : PySem.W.Frag) (mg : Str → Option Value) (base : Heap) (CX : CXT) (k : Nat) (p : Addr × Obj) (f : Addr) (fd : FuncData) (ps : List Str) (sp : Sp) : Prop where
  len : ∀ vs H Q E, sp vs H Q E → vs.length = ps.length
  run : ∀ (A : Around) (outer : List Env) (s : Shared) (H : Hp) (args : Args) (us : List Value) (vs : List V) (Q : VK) (E : XK), RoomH k A → PinOk outer H s p → Env0 P w K mg base A outer s H → BindsTo s fd args (ps.zip us) → Vals vs us → sp vs H Q E →
    codeAny (model P w) A (.call (.ref f) args) (CR CX outer P w H s Q E) s
theorem fn_ofQ {CX : CXT} {P : Program} {w : World} {K : PySem.W.Frag} {mg : Str → Option Value} {base : Heap} {k : Nat} {f : Addr} {name qual : Str} {params : Arguments} {body : List Stmt} {scope : Scope} {dV kV doc pm cdv ct oc : Value} {an od : Option Addr}
    {osl : Array (Option Value)} {N ps : List Str} {sp : Sp} {p : Addr × Obj} (lk : K.lookup f = some ⟨oc, od, .func (PySem.W.fnOf name qual params body scope dV kV doc pm an cdv ct), osl⟩) (hcd : PySem.W.codeIn K cdv qual = true) (S : FnScope N ps scope)
    (len : ∀ vs H Q E, sp vs H Q E → vs.length = ps.length)
    (hbody : ∀ (A : Around) (outer : List Env) (s : Shared) (H : Hp) (vs : List V) (Q : VK) (E : XK), RoomH k (A.deeper (envOfC qual scope s.heap.objs.size f cdv)) → sp vs H Q E →
      ∃ t, PSs (cxH CX P w K mg base N qual scope f cdv A outer s H E p) body t ∧ t { nx := fun _ H' => Q .non H', rt := Q } (L2.start N vs) H) :
    FnQ P w K mg base CX (k + 1) p f (PySem.W.fnOf name qual params body scope dV kV doc pm an cdv ct) ps sp := by
  refine ⟨len, fun A outer s H args us vs Q E hr hpin e0 hb r hsp => ?_⟩
  have hl := len _ _ _ _ hsp
  have KX : K.In s.heap := e0.mod.kin.keeps fun b o e => (e0.bs b o e).1
  have lim : s.heap.NoLimit := e0.mod.nolimit.keeps fun b o e => (e0.bs b o e).1
  have hkind : ∀ y ∈ ps.zip us, scope.names.lookup y.1 = some .local ∨ (scope.names.lookup y.1 = some .cell ∧ ((cellsFrom (s.heap.objs.size + 1) scope.names []).lookup y.1).isSome = true) := fun ⟨n, v⟩ hy => by
    rcases S.par n (List.of_mem_zip hy).1 with q | q
    · exact .inl q
    · exact .inr ⟨q, PySem.W.cellsFrom_some _ _ _ (.inl q)⟩
  refine codeAny_call_function hr.depth (KX _ _ lk) rfl S.co S.gen rfl (PySem.W.codeRec_of KX hcd) (hb _ _ _ _ ?_)
  refine wpAny_newFunctionEnv_cells S.kind hkind fun env he s1 x => ?_
  subst he
  refine ⟨lim.keeps x.toInCall.keep, codeAny_func ?_⟩
  obtain ⟨t, ht, hq⟩ := hbody A outer s H vs Q E (hr.deeper _) hsp
  have I : Inv (cxH CX P w K mg base N qual scope f cdv A outer s H E p) [] (L2.start N vs) H s1 := inv_startH S hpin e0 hl r x
  refine wpAny_mono (ht.run [] s1 (L2.start N vs) H _ I hq) (fun fl s' hs => ?_) fun e s' hs => hs
  have fin : ∀ {σ' : L2.St} {H' : Hp} {v : V} {u : Value}, Inv (cxH CX P w K mg base N qual scope f cdv A outer s H E p) [] σ' H' s' → RelV v u → Q v H' → CE outer P w H s Q u s' :=
    fun {σ' H' v u} J rv q => ⟨v, H', J.os, J.bare, J.base, J.hok, rv, q⟩
  cases fl with
  | ret u =>
    obtain ⟨v, σ', H', J, rv, q⟩ := hs
    exact fin J rv q
  | next =>
    obtain ⟨σ', H', J, q⟩ := hs
    exact fin (v := V.non) (u := Value.none) J rfl q
  | brk =>
    obtain ⟨_, _, _, q⟩ := hs
    exact False.elim q
  | cont =>
    obtain ⟨_, _, _, q⟩ := hs
    exact False.elim q

section
variable {P : Program} {w : World} {K : PySem.W.Frag} {mg : Str → Option Value} {base : Heap}
theorem Fun.okQ {x qual : Str} {st : Stmt} {f : Addr} {fd : FuncData} {N ps : List Str} {k : Nat} {sp : Sp} {p : Addr × Obj} (F : Fun K x qual st f fd) (S : FnScope N ps (defScope st)) (len : ∀ vs H Q E, sp vs H Q E → vs.length = ps.length)
    (hbody : ∀ (cdv : Value) (A : Around) (outer : List Env) (s : Shared) (H : Hp) (vs : List V) (Q : VK) (E : XK), RoomH k (A.deeper (envOfC qual (defScope st) s.heap.objs.size f cdv)) → sp vs H Q E →
      ∃ t, PSs (cxH CX0 P w K mg base N qual (defScope st) f cdv A outer s H E p).nox (defBody st) t ∧ t { nx := fun _ H' => Q .non H', rt := Q } (start N vs) H) : FnQ P w K mg base CX0 (k + 1) p f fd ps sp := by
  obtain ⟨oc, od, kV, doc, pm, an, cdv, ct, osl, rfl, lk, hcd⟩ := F.ex
  refine fn_ofQ lk hcd S len fun A outer s H vs Q E hr hsp => ?_
  obtain ⟨t, h, q⟩ := hbody cdv A outer s H vs Q E hr hsp
  exact ⟨t, h.nox, q⟩
end
theorem runAny_ofQ {X : Cx} {k : Nat} {f : Addr} {fd : FuncData} {ps : List Str} {sp : Sp} {p : Addr × Obj} (F : FnQ X.prog X.w X.K X.mg X.base CX0 k p f fd ps sp) (hp : p ∈ X.pn) (hb : Binds X.K fd ps []) : RunAny X k f sp E0 := fun A pins σ H s Q us vs hA _ hr I r h => by
  have hl : us.length = ps.length := by rw [← r.length]; exact F.len _ _ _ _ h
  have b := hb s us I.kIn (by rw [List.append_nil]; exact hl)
  rw [List.append_nil] at b
  have P1 := I.pin p (List.mem_append_left _ hp)
  have hpin : PinOk X.stack H s p := ⟨P1.1, P1.2.1, fun hm => (List.mem_cons.mp (I.stkSub p.1 hm)).elim P1.2.2.1 P1.2.2.2.1, P1.2.2.2.2⟩
  have e0 : Env0 X.prog X.w X.K X.mg X.base A X.stack s H := by
    have e := I.env0
    exact ⟨hA.trans e.frames, e.mod, e.bs, e.bsz, e.funs, e.frf, e.hok, e.bare⟩
  refine wpAny_call (codeAny_mono (F.run A X.stack s H ⟨us, []⟩ us vs Q E0 hr hpin e0 b r h) fun r s' hq => ?_)
  cases r with
  | error e => exact False.elim hq
  | ok fl =>
    cases fl with
    | ret u => exact I.after hq
    | next => exact False.elim hq
    | brk => exact False.elim hq
    | cont => exact False.elim hq
end SFT

/-! Things of many sorts: whole or not, the text of their tuple; defs that refuse them; what is caught then. -/
namespace SQ
open PySem PySem.Spec PyProof.Rows L2 SF SFT LamX
/-- v is a thing, whole or not -/
def IsWh (C : Addr) (H : Hp) (v : V) (b : Bool) : Prop := (∃ T, Dec H v T ∧ isI v = b) ∨ (IsIns C H v ∧ b = false)
theorem isw_if {C : Addr} {H : Hp} {v : V} {b : Bool} {i : Nat} {σ : L2.St} {D : Ends} {ts te : L2.TS} (e : σ[i]? = some (some v)) (h : IsWh C H v b) (q : if (!b) = true then ts D σ H else te D σ H) :
    tIfS (tNot (tB (tCall (spIsW C) [] E0 (tCons (tVar i) tNil)))) ts te D σ H := by
  rcases h with ⟨T, d, rfl⟩ | ⟨d, rfl⟩
  · exact ⟨_, e, _, rfl, .inl ⟨_, d, _, rfl, q⟩⟩
  · exact ⟨_, e, _, rfl, .inr ⟨d, _, rfl, q⟩⟩
/-- making with what is no integer; D: InvalidNumber -/
def spWI (C D : Addr) : Sp := fun vs H _ E => ∃ (p : Addr) (t b : V), vs = [.ref p, t, b] ∧ ((IsWh C H t false ∧ ErrG E D t H) ∨ (∃ i, t = .int i ∧ IsWh C H b false ∧ ErrG E D b H))
/-- over what is no number -/
def spWO (D : Addr) : Sp := fun vs H _ E => ∃ (a v : V), vs = [a, v] ∧ (∃ T, Dec H v T ∧ isI v = false) ∧ ErrG E D v H
/-- power with what is no integer from -20 to 20 -/
def spWP (C D : Addr) : Sp := fun vs H _ E => ∃ (a v : V), vs = [a, v] ∧ (IsWh C H v false ∨ ∃ e, v = .int e ∧ (e < -20 ∨ e > 20)) ∧ ErrG E D v H
/-- reading what is no string -/
def spWR (C D : Addr) : Sp := fun vs H _ E => ∃ v : V, vs = [.ref C, v] ∧ ((∃ T, Dec H v T ∧ T ≠ "str") ∨ IsIns C H v) ∧ ErrG E D v H
/-- ** with what is no integer from -20 to 20 -/
def spWQ (C D : Addr) : Sp := fun vs H _ E => ∃ (a : Addr) (n : Nat) (q : Rat) (e : Int), vs = [.ref a, .int e] ∧ RQ C H a n q ∧ (e < -20 ∨ e > 20) ∧ ErrG E D (.int e) H
/-- repr of a thing's tuple: of built-in things, or of a fraction -/
def rTh (C : Addr) : List V → Hp → VK → Prop := fun xs H Q => SX.rReprS xs H Q ∨ rTupOwn C (spRepr C) E0 xs H Q
theorem mono_rTh {C : Addr} : Mono (rTh C) := fun xs H Q Q' h z => z.imp (SFT.mono_reprS xs H Q Q' h) (fun ⟨p, v, y, e1, e2, e3, e4, q⟩ => ⟨p, v, y, e1, e2, e3, e4, h _ _ q⟩)
theorem callR_or {X : Cx} {f : Value} {r1 r2 : List V → Hp → VK → Prop} (h1 : CallR X f r1) (h2 : CallR X f r2) : CallR X f (fun xs H Q => r1 xs H Q ∨ r2 xs H Q) := fun pins s σ H xs us Q I r h => h.elim (h1 pins s σ H xs us Q I r) (h2 pins s σ H xs us Q I r)
mutual
theorem Sd.extN {H H' : Hp} (s : ExtN H H') : ∀ {v : V} {d : PyData}, SX.Sd H v d → SX.Sd H' v d
  | _, _, .non => .non
  | _, _, .bl b => .bl b
  | _, _, .int i => .int i
  | _, _, .str x => .str x
  | _, _, .lst n e h => .lst n (s _ _ e (fun ps z => by cases z)) (SdAll.extN s h)
  | _, _, .tup e h => .tup (s _ _ e (fun ps z => by cases z)) (SdAll.extN s h)
  | _, _, .dct e h => .dct (s _ _ e (fun ps z => by cases z)) (SdP.extN s h)
theorem SdAll.extN {H H' : Hp} (s : ExtN H H') : ∀ {vs : List V} {ds : List PyData}, SX.SdAll H vs ds → SX.SdAll H' vs ds
  | _, _, .nil => .nil
  | _, _, .cons a b => .cons (Sd.extN s a) (SdAll.extN s b)
theorem SdP.extN {H H' : Hp} (s : ExtN H H') : ∀ {vs : List (Key × V)} {ds : List (PyData × PyData)}, SX.SdP H vs ds → SX.SdP H' vs ds
  | _, _, .nil => .nil
  | _, _, .cons a b => .cons (Sd.extN s a) (SdP.extN s b)
end
/-- the repr of the tuple (v,) is t -/
def TxtV (C : Addr) (H : Hp) (v : V) (t : Str) : Prop := (∃ d : PyData, SX.Sd H v d ∧ (PyData.tuple [d]).showable = true ∧ (PyData.tuple [d]).depth ≤ 8 ∧ (PyData.tuple [d]).shown.length ≤ sizeLine ∧ t = (PyData.tuple [d]).shown) ∨
  ∃ a n q, v = .ref a ∧ RQ C H a n q ∧ n ≤ 1900 ∧ (tupleText [rrepr q]).length ≤ sizeLine ∧ t = tupleText [rrepr q]
theorem TxtV.extN {C : Addr} {H H' : Hp} {v : V} {t : Str} (h : TxtV C H v t) (S : ExtN H H') : TxtV C H' v t := by
  rcases h with ⟨d, a, b⟩ | ⟨a, n, q, e, r, b⟩
  · exact .inl ⟨d, Sd.extN S a, b⟩
  · exact .inr ⟨a, n, q, e, r.extN S, b⟩
theorem TxtV.same {C : Addr} {H H' : Hp} {v : V} {t : Str} (h : TxtV C H v t) (S : Same H H') : TxtV C H' v t := h.extN (ExtN.of S)
theorem rTh_of {C p : Addr} {H : Hp} {v : V} {t : Str} {Q : VK} (h : TxtV C H v t) (ep : H p = some (.tup [v])) (q : Q (.str t) H) : rTh C [.ref p] H Q := by
  rcases h with ⟨d, a, b1, b2, b3, rfl⟩ | ⟨a, n, x, rfl, r, hn, hl, rfl⟩
  · exact .inl ⟨p, .tuple [d], rfl, .tup ep (.cons a .nil), b1, b2, b3, q⟩
  · obtain ⟨⟨dx, ea⟩, _⟩ := id r
    exact .inr ⟨p, .ref a, rrepr x, rfl, ep, ⟨a, dx, _, rfl, ea, fun Q h => ⟨a, n, x, rfl, r, hn, h⟩⟩, hl, q⟩
/-- kinds of things -/
inductive TK where
  | whole (i : Int) | num (n : Nat) (q : Rat) | other
def Thing (C : Addr) (H : Hp) (v : V) (t : Str) : TK → Prop
  | .whole i => v = .int i ∧ TxtV C H v t
  | .num n q => (∃ a, v = .ref a ∧ RQ C H a n q) ∧ TxtV C H v t
  | .other => (∃ T, Dec H v T ∧ isI v = false) ∧ TxtV C H v t
theorem Thing.txt {C : Addr} {H : Hp} {v : V} {t : Str} {k : TK} (h : Thing C H v t k) : TxtV C H v t := by
  cases k <;> exact h.2
theorem Dec.extN {H H' : Hp} (s : ExtN H H') {v : V} {T : String} (d : Dec H v T) : Dec H' v T := by
  cases d with
  | non => exact .non
  | bl b => exact .bl b
  | int i => exact .int i
  | str x => exact .str x
  | lst e => exact .lst (s _ _ e (fun ps z => by cases z))
  | tup e => exact .tup (s _ _ e (fun ps z => by cases z))
  | dK e => exact .dK (s _ _ e (fun ps z => by cases z))
theorem Thing.extN {C : Addr} {H H' : Hp} {v : V} {t : Str} {k : TK} (h : Thing C H v t k) (S : ExtN H H') : Thing C H' v t k := by
  cases k with
  | whole i => exact ⟨h.1, h.2.extN S⟩
  | num n q => obtain ⟨⟨a, e, r⟩, x⟩ := h; exact ⟨⟨a, e, r.extN S⟩, x.extN S⟩
  | other => obtain ⟨⟨T, d, e⟩, x⟩ := h; exact ⟨⟨T, Dec.extN S d, e⟩, x.extN S⟩
theorem Thing.isw {C : Addr} {H : Hp} {v : V} {t : Str} {k : TK} (h : Thing C H v t k) (hk : ∀ i, k ≠ .whole i) : IsWh C H v false := by
  cases k with
  | whole i => exact absurd rfl (hk i)
  | num n q => obtain ⟨⟨a, rfl, r⟩, _⟩ := h; exact .inr ⟨r.ins, rfl⟩
  | other => obtain ⟨⟨T, d, e⟩, _⟩ := h; exact .inl ⟨T, d, e⟩
/-- e is the thing -/
def TV (C : Addr) (G : L2.St → Hp → Prop) (k : TK) (t : Str) (s : Prop) : TE := fun σ H Q => G σ H ∧ s ∧ ∀ v H', Same H H' → Thing C H' v t k → Q v H'
/-- e lets the error of the class at D out, which holds a thing with the text t -/
def TW (E : XK) (D C : Addr) (G : L2.St → Hp → Prop) (t : Str) (s : Prop) : TE := fun σ H _ => G σ H ∧ s ∧ ∀ v H', Same H H' → TxtV C H' v t → ErrG E D v H'
section
variable {X : Cx} {C : Addr} {T : List (Addr × Str)} {G : L2.St → Hp → Prop} {cs : Nat → Addr} {e : Expr} {s : Prop} {t : Str}
theorem pc_wrong {RV : List V → Hp → VK → Prop} {j : Nat} (hj : j < 12) (hgv : ∀ v, given j [("given", v)] = some [v]) (h : PE X e (tLam T (TTc cs RV (rTh C)) (fun E => TW E (cs j) C G t s))) (hG : GN G) : PE X e (TC T G (cnm j) t s) :=
  pe_weak h fun σ H Q ⟨hg, hT, h1, z⟩ => ⟨hT, fun H1 S1 T1 Q0 hQ0 => ⟨hG _ _ _ hg S1, h1, fun v H2 S2 tx dx H3 S3 ex => ⟨j, [("given", v)], [v], hj, rfl, .inr ⟨dx, rfl, ex⟩, hgv v, fun p H4 S4 ep =>
    rTh_of ((tx.same S3).same S4) ep ⟨_, rfl, fun L H5 S5 nL eL => z L H5 (S1.trans (ExtN.of fun b o z => S5 b o (S4 b o (S3 b o (S2 b o z))))) (T1.ext fun b o z => S5 b o (S4 b o (S3 b o (S2 b o z)))) eL⟩⟩⟩⟩
end
end SQ

/-! Things of many sorts that an expression gives; they keep off one object that changes (at a). -/
namespace SQ
open PySem PySem.Spec PyProof.Rows L2 SF SFT LamX
theorem same_del {H H' : Hp} {a : Addr} (S : Same H H') : Same (del H a) (del H' a) := fun b o e => by
  by_cases h : b = a
  · subst h
    rw [del_same] at e
    cases e
  · rw [del_ne h] at e ⊢
    exact S b o e
theorem extN_del {H H' : Hp} {a : Addr} (S : ExtN H H') : ExtN (del H a) (del H' a) := fun b o e nt => by
  by_cases h : b = a
  · subst h
    rw [del_same] at e
    cases e
  · rw [del_ne h] at e ⊢
    exact S b o e nt
theorem del_sub {H : Hp} {a : Addr} : Same (del H a) H := fun b o e => by
  by_cases h : b = a
  · subst h
    rw [del_same] at e
    cases e
  · rw [del_ne h] at e
    exact e
theorem Thing.same {C : Addr} {H H' : Hp} {v : V} {t : Str} {k : TK} (h : Thing C H v t k) (S : Same H H') : Thing C H' v t k := h.extN (ExtN.of S)
/-- e is a thing off a -/
def TVd (R : V → Prop) (C a : Addr) (G : L2.St → Hp → Prop) (k : TK) (t : Str) : TE := fun σ H Q => G σ H ∧ ∀ v H', Same H H' → Thing C (del H' a) v t k → R v → Q v H'
/-- things off a, one behind the other -/
def Things (R : V → Prop) (C : Addr) (H : Hp) : List V → List (TK × Str) → Prop
  | [], [] => True
  | v :: vs, k :: ks => Thing C H v k.2 k.1 ∧ R v ∧ Things R C H vs ks
  | _, _ => False
theorem Things.same {R : V → Prop} {C : Addr} {H H' : Hp} (S : Same H H') : ∀ {vs : List V} {ks : List (TK × Str)}, Things R C H vs ks → Things R C H' vs ks
  | [], [], h => h
  | _ :: _, _ :: _, h => ⟨h.1.same S, h.2.1, Things.same S h.2.2⟩
  | [], _ :: _, h => h.elim
  | _ :: _, [], h => h.elim
theorem Things.len {R : V → Prop} {C : Addr} {H : Hp} : ∀ {vs : List V} {ks : List (TK × Str)}, Things R C H vs ks → vs.length = ks.length
  | [], [], _ => rfl
  | _ :: _, _ :: _, h => by simp [Things.len h.2.2]
  | [], _ :: _, h => h.elim
  | _ :: _, [], h => h.elim
theorem Things.at_ {R : V → Prop} {C : Addr} {H : Hp} : ∀ {vs : List V} {ks : List (TK × Str)} {i : Nat}, Things R C H vs ks → i < ks.length → ∃ v k, vs[i]? = some v ∧ ks[i]? = some k ∧ Thing C H v k.2 k.1 ∧ R v
  | [], [], _, _, h => by simp at h
  | v :: vs, k :: ks, 0, h, _ => ⟨v, k, rfl, rfl, h.1, h.2.1⟩
  | v :: vs, k :: ks, i + 1, h, hi => by
    obtain ⟨v', k', e1, e2, x⟩ := Things.at_ (i := i) h.2.2 (by simpa using hi)
    exact ⟨v', k', by simpa using e1, by simpa using e2, x⟩
  | [], _ :: _, _, h, _ => h.elim
  | _ :: _, [], _, h, _ => h.elim
def TAd (R : V → Prop) (C a : Addr) (G : L2.St → Hp → Prop) (ks : List (TK × Str)) : TA := fun σ H Q => G σ H ∧ ∀ vs H', Same H H' → Things R C (del H' a) vs ks → Q vs H'
/-- the object at a stands -/
def GA (a : Addr) (G : L2.St → Hp → Prop) : Prop := ∀ σ H, G σ H → ∃ x y z : Int, H a = some (.lst [.int x, .int y, .int z])
section
variable {R : V → Prop} {X : Cx} {C a : Addr} {G : L2.St → Hp → Prop} {e : Expr} {es : List Expr} {ks : List (TK × Str)} {k : TK} {t : Str} {v : V} {vs : List V} {ds : List PyData} {d : PyData} {te : TE} {ta : TA} {pos : Pos}
theorem td_nil : PA X [] (TAd R C a G []) := ⟨fun pos pins s σ H Q I h => (pa_nil (X := X)).run pos pins s σ H Q I (h.2 [] H (Same.refl H) trivial)⟩
theorem td_cons (hG : GS G) (ha : PE X e (TVd R C a G k t)) (hr : PA X es (TAd R C a G ks)) (hs : starEach (e :: es) X.env = (false, eval e X.env) :: starEach es X.env := by rfl) : PA X (e :: es) (TAd R C a G ((k, t) :: ks)) :=
  ⟨fun pos pins s σ H Q I h => (pa_cons ha hr hs).run pos pins s σ H Q I ⟨h.1, fun v H1 S1 tv rv => ⟨hG _ _ _ h.1 S1, fun vs H2 S2 tvs => h.2 _ _ (S1.trans S2) ⟨tv.same (same_del S2), rv, tvs⟩⟩⟩⟩
/-- the text of the tuple of what d is can be had -/
def OkD (d : PyData) : Prop := (PyData.tuple [d]).showable = true ∧ (PyData.tuple [d]).depth ≤ 8 ∧ (PyData.tuple [d]).shown.length ≤ sizeLine
theorem txt_of {H : Hp} (h : SX.Sd H v d) (o : OkD d) : TxtV C H v (PyData.tuple [d]).shown := .inl ⟨d, h, o.1, o.2.1, o.2.2, rfl⟩
/-- a literal -/
theorem td_lit (h : PE X e te) (hte : ∀ σ H Q, Q v H → te σ H Q) (hv : ∀ H, Thing C H v t k) (hR : R v := by trivial) : PE X e (TVd R C a G k t) := pe_weak h fun σ H Q ⟨hg, z⟩ => hte σ H Q (z v H (Same.refl H) (hv _) hR)
theorem off (hA : GA a G) {σ : L2.St} {H : Hp} (hg : G σ H) {p : Addr} (np : H p = none) : p ≠ a := fun e => by
  obtain ⟨x, y, z, h⟩ := hA σ H hg
  rw [e, h] at np
  cases np
theorem td_tup {x1 : Nat} (hA : GA a G) (h : PA X es ta) (hta : ∀ σ H Q, Q vs H → ta σ H Q) (hd : ∀ H, SX.SdAll H vs ds) (hl : vs.length ≤ sizeLine) (o : OkD (.tuple ds)) (hR : ∀ p, R (.ref p) := by intros; trivial) : PE X (.Tuple es x1 pos) (TVd R C a G .other (PyData.tuple [.tuple ds]).shown) :=
  pe_weak (pe_tup h) fun σ H Q ⟨hg, z⟩ => hta σ H _ ⟨hl, fun p np => by
    have e : del (upd H p (.tup vs)) a p = some (.tup vs) := by rw [del_ne (off hA hg np)]; exact upd_same
    exact z _ _ (same_new (Same.refl H) np) ⟨⟨"tuple", .tup e, rfl⟩, txt_of (.tup e (hd _)) o⟩ (hR _)⟩
theorem td_lst (hA : GA a G) (h : PA X es ta) (hta : ∀ σ H Q, Q vs H → ta σ H Q) (hd : ∀ H, SX.SdAll H vs ds) (hl : vs.length ≤ sizeLine) (o : OkD (.list ds)) (hR : ∀ p, R (.ref p) := by intros; trivial) : PE X (.List es pos) (TVd R C a G .other (PyData.tuple [.list ds]).shown) :=
  pe_weak (SX.pe_lstS h) fun σ H Q ⟨hg, z⟩ => hta σ H _ ⟨hl, fun p np ns => by
    have e : del (upd H p (.lst vs)) a p = some (.lst vs) := by rw [del_ne (off hA hg np)]; exact upd_same
    exact z _ _ (same_new (Same.refl H) np) ⟨⟨"list", .lst e, rfl⟩, txt_of (.lst ns e (hd _)) o⟩ (hR _)⟩
theorem td_dct0 (hA : GA a G) (o : OkD (.dict [])) (hR : ∀ p, R (.ref p) := by intros; trivial) : PE X (.Dict [] [] pos) (TVd R C a G .other (PyData.tuple [.dict []]).shown) :=
  pe_weak pe_dnewK fun σ H Q ⟨hg, z⟩ => fun p np => by
    have e : del (upd H p (.dK [])) a p = some (.dK []) := by rw [del_ne (off hA hg np)]; exact upd_same
    exact z _ _ (same_new (Same.refl H) np) ⟨⟨"dict", .dK e, rfl⟩, txt_of (.dct e .nil) o⟩ (hR _)
theorem td_dct {keys : List (Option Expr)} {values : List Expr} {trs : List (TE × TE)} {kvs : List (Key × V)} {D : List (PyData × PyData)} (hA : GA a G) (h : PPs X pos keys values trs)
    (hta : ∀ σ H Q, Q (kvs.map (fun kv => (kV kv.1, kv.2))) H → tPairs trs σ H Q) (hd : ∀ H, SX.SdP H (mergeK [] kvs) D) (o : OkD (.dict D)) (h0 : keys ≠ [] := by simp) (hall : keys.all (·.isSome) = true := by rfl) (hl : keys.length = values.length := by rfl) (h15 : keys.length ≤ 15 := by decide) (hk : kvs.length ≤ 15 := by decide) (hR : ∀ p, R (.ref p) := by intros; trivial) :
    PE X (.Dict keys values pos) (TVd R C a G .other (PyData.tuple [.dict D]).shown) :=
  pe_weak (pe_disp h hall hl h0 h15) fun σ H Q ⟨hg, z⟩ => fun p np => hta σ _ _ ⟨upd_same, kvs, rfl, hk, by
    have e : del (upd (upd H p (.dK [])) p (.dK (mergeK [] kvs))) a p = some (.dK (mergeK [] kvs)) := by rw [del_ne (off hA hg np)]; exact upd_same
    refine z _ _ (fun b u eb => ?_) ⟨⟨"dict", .dK e, rfl⟩, txt_of (.dct e (hd _)) o⟩ (hR _)
    have nb : b ≠ p := ne_of_none eb np
    rw [upd_ne nb, upd_ne nb]
    exact eb⟩
theorem td_num {n : Nat} {q : Rat} {s : Prop} (hA : GA a G) (hG : GS G) (h : PE X e (TQ C G true n q s)) (hs : s) (hn : n ≤ 1900) (hl : (tupleText [rrepr q]).length ≤ sizeLine) (hR : ∀ p, R (.ref p) := by intros; trivial) : PE X e (TVd R C a G (.num n q) (tupleText [rrepr q])) :=
  pe_weak h fun σ H Q ⟨hg, z⟩ => ⟨hg, hs, fun v H' S nv => by
    obtain ⟨p, rfl, r⟩ := nv_true nv
    obtain ⟨x, y, w, ea⟩ := hA σ H' (hG _ _ _ hg S)
    obtain ⟨⟨dx, ep⟩, sz⟩ := id r
    have ne : p ≠ a := fun e => by rw [e, ea] at ep; cases ep
    have r' : RQ C (del H' a) p n q := ⟨⟨dx, by rw [del_ne ne]; exact ep⟩, sz⟩
    exact z _ _ S ⟨⟨p, rfl, r'⟩, .inr ⟨p, n, q, rfl, r', hn, hl, rfl⟩⟩ (hR _)⟩
end
end SQ

/-! Slots that hold things, fractions, lists of texts, off an object that changes; what was caught, and what is due. -/
namespace SQ
open PySem PySem.Spec PyProof.Rows L2 SF SFT LamX
inductive WF where
  | th (i : Nat) (v : V) (k : TK) (t : PySem.Str)
  | fr (i : Nat) (b : Addr) (n : Nat) (q : Rat)
  | ls (i : Nat) (p : Addr) (xs : List PySem.Str)
def WF.ok (C : Addr) (σ : L2.St) (H : Hp) : WF → Prop
  | .th i v k t => σ[i]? = some (some v) ∧ Thing C H v t k
  | .fr i b n q => σ[i]? = some (some (.ref b)) ∧ RQ C H b n q
  | .ls i p xs => σ[i]? = some (some (.ref p)) ∧ H p = some (.lst (xs.map V.str))
theorem WF.extN {C : Addr} {σ : L2.St} {H H' : Hp} {f : WF} (h : f.ok C σ H) (S : ExtN H H') : f.ok C σ H' := by
  cases f with
  | th i v k t => exact ⟨h.1, h.2.extN S⟩
  | fr i b n q => exact ⟨h.1, h.2.extN S⟩
  | ls i p xs => exact ⟨h.1, S _ _ h.2 (fun ps z => by cases z)⟩
/-- the slots hold these -/
def GW (C a : Addr) (fs : List WF) : L2.St → Hp → Prop := fun σ H => ∀ f ∈ fs, f.ok C σ (del H a)
theorem GW.gn {C a : Addr} {fs : List WF} : GN (GW C a fs) := fun σ H H' h S f hf => WF.extN (h f hf) (extN_del S)
theorem GW.gs {C a : Addr} {fs : List WF} : GS (GW C a fs) := fun σ H H' h S f hf => WF.extN (h f hf) (extN_del (ExtN.of S))
theorem rq_del {C a p : Addr} {H : Hp} {n : Nat} {q : Rat} (h : RQ C (del H a) p n q) : RQ C H p n q := h.same del_sub
section
variable {X : Cx} {C a : Addr} {fs : List WF} {e : Expr} {i : Nat} {v : V} {k : TK} {t : PySem.Str} {b p : Addr} {n : Nat} {q : Rat} {xs : List PySem.Str} {z : Int}
theorem tv_w (hm : WF.th i v k t ∈ fs) (h : PE X e (tVar i)) : PE X e (TV C (GW C a fs) k t True) :=
  pe_weak h fun σ H Q ⟨hg, _, z⟩ => ⟨v, (hg _ hm).1, z v H (Same.refl _) ((hg _ hm).2.same del_sub)⟩
theorem tq_w (hm : WF.fr i b n q ∈ fs) (h : PE X e (tVar i)) : PE X e (TQ C (GW C a fs) true n q True) :=
  pq_var h fun σ H g => ⟨_, (g _ hm).1, (rq_del (g _ hm).2).nv⟩
theorem tn_w (hm : WF.th i v (.num n q) t ∈ fs) (h : PE X e (tVar i)) : PE X e (TQ C (GW C a fs) true n q True) :=
  pq_var h fun σ H g => by
    obtain ⟨h1, ⟨p, rfl, r⟩, _⟩ := g _ hm
    exact ⟨_, h1, (rq_del r).nv⟩
theorem ti_w (hm : WF.th i v (.whole z) t ∈ fs) (h : PE X e (tVar i)) : PE X e (TI (GW C a fs) z True) :=
  pI_var h fun σ H g => by
    obtain ⟨h1, rfl, _⟩ := g _ hm
    exact h1
theorem tw_w (hm : WF.th i v (.whole z) t ∈ fs) (hz : z.natAbs < 2 ^ n) (h0 : 0 < n) (h : PE X e (tVar i)) : PE X e (TQ C (GW C a fs) false n (z : Rat) True) :=
  pq_var h fun σ H g => by
    obtain ⟨h1, rfl, _⟩ := g _ hm
    exact ⟨_, h1, nvI hz h0⟩
theorem tl_w (hm : WF.ls i p xs ∈ fs) (h : PE X e (tVar i)) : PE X e (TL (GW C a fs) xs True) :=
  pe_weak h fun σ H Q ⟨hg, _, z⟩ => ⟨_, (hg _ hm).1, z p H (Same.refl _) (del_sub _ _ (hg _ hm).2)⟩
end
/-- what was seen is what is due: nothing, or these texts -/
def dueB (w x : PySem.Str) (ds : List PySem.Str) : Bool := if ds = [] then decide (w = "told") else decide ([w, x] = ds)
/-- what is caught of e is what is due -/
def CD (X : Cx) (e : Expr) (G : L2.St → Hp → Prop) (Tb : List (Addr × PySem.Str)) (ds : List PySem.Str) : Prop :=
  ∃ w x s, PE X e (TC Tb G w x s) ∧ s ∧ [w, x].all PyData.strOk = true ∧ dueB w x ds = true
def spIsDue : Sp := fun vs H Q _ => ∃ p q w x ds, vs = [.ref p, .ref q] ∧ H p = some (.lst [.str w, .str x]) ∧ H q = some (.lst (ds.map V.str)) ∧ [w, x].all PyData.strOk = true ∧ ds.all PyData.strOk = true ∧ ∀ H', Same H H' → Q (.bl (dueB w x ds)) H'
/-- true, behind which tables of code objects may have grown -/
def TDu (Tb : List (Addr × PySem.Str)) (G : L2.St → Hp → Prop) (s : Prop) : TE := fun σ H Q => G σ H ∧ Tabs Tb H ∧ s ∧ ∀ H', ExtN H H' → Tabs Tb H' → Q (.bl true) H'
section
variable {X : Cx} {C : Addr} {Tb : List (Addr × PySem.Str)} {G : L2.St → Hp → Prop} {k : Nat} {D : Addr} {fd : FuncData} {seen due : Expr} {ds : List PySem.Str} {s2 : Prop} {p pos : Pos} {x : PySem.Str}
theorem pe_due (F : FnOk X.prog X.w X.K X.mg X.base CX0 k D fd ["_law_seen", "_law_due"] spIsDue) (hr : Room k X.A) (hg : Gl X x) (hm : X.mg x = some (.ref D)) (hk : PySem.W.keepIn X.K (.ref D) = true) (hb : Binds X.K fd ["_law_seen", "_law_due"] []) (hG : GN G) (hs : CD X seen G Tb ds) (hd : PE X due (TL G ds s2)) (okd : ds.all PyData.strOk = true) (hdb : (x == ("__debug__" : PySem.Str)) = false := by decide)
    (he : starEach (seen :: [due]) X.env = (false, eval seen X.env) :: starEach [due] X.env := by rfl) (he2 : starEach (due :: []) X.env = (false, eval due X.env) :: starEach [] X.env := by rfl) (hpl : (backTo pos (starEach [due] X.env)).any (·.1) = false := by rfl) :
    PE X (.Call (.Name x p) [seen, due] [] pos) (TDu Tb G s2) := by
  obtain ⟨w, y, s, h, hs, ok, db⟩ := hs
  exact pe_weak (pe_call (E := E0) F hr hg hm hk hb .nil pass0 (pa_cons h (pa_cons hd pa_nil he2) he) hdb he hpl) fun σ H Q ⟨hg, hT, h2, z⟩ =>
    ⟨hg, hT, hs, fun p H1 S1 T1 e1 => ⟨hG _ _ _ hg S1, h2, fun q H2 S2 e2 => ⟨p, q, w, y, ds, rfl, S2 _ _ e1, e2, ok, okd, fun H3 S3 => by
      rw [db]
      exact z H3 (S1.trans (ExtN.of (S2.trans S3))) (T1.ext (S2.trans S3))⟩⟩⟩
end
/-! ### off the source -/
def ButN (s : Addr) (H H' : Hp) : Prop := ∀ b o, b ≠ s → H b = some o → (∀ ps, o ≠ .tbl ps) → H' b = some o
theorem ButN.of {s : Addr} {H H' : Hp} (x : ExtN H H') : ButN s H H' := fun b o _ e h => x b o e h
theorem ButN.trans {s : Addr} {H H1 H2 : Hp} (x : ButN s H H1) (y : ButN s H1 H2) : ButN s H H2 := fun b o n e h => y b o n (x b o n e h) h
theorem butN_del {a : Addr} {H H' : Hp} (k : ButN a H H') : ExtN (del H a) (del H' a) := fun b o e nt => by
  by_cases h : b = a
  · subst h
    rw [del_same] at e
    cases e
  · rw [del_ne h] at e ⊢
    exact k b o h e nt
theorem WF.butN {C a : Addr} {σ : L2.St} {H H' : Hp} {f : WF} (h : f.ok C σ (del H a)) (S : ButN a H H') : f.ok C σ (del H' a) := WF.extN h (butN_del S)
end SQ

/-! The class of fractions, def by def. -/
namespace T06
open PySem PySem.Spec PyProof.Rows L2 SF SQ
section
variable {P : Program} {w : World} {K : PySem.W.Frag} {mg : Str → Option Value} {base : Heap} {C : Addr}
theorem ok_isW (T : Tx K mg C) : FnOk P w K mg base CX0 1 T.aIsW T.dIsW ["value"] (spIsW C) := by
  refine T.FIsW.ok scIsW (fun vs H Q E h => ?_) (fun cdv A outer s H vs Q E hr h => ?_)
  · obtain ⟨v, rfl, _⟩ := h
    rfl
  · obtain ⟨v, rfl, h⟩ := h
    refine ⟨_, (pss_one (ps_ret (pe_and (pe_callB call_isi (by rfl) T.rc.isi (by decide +kernel) (pa_cons (pv 0) (pa_cons (pe_bltn (v := .ty "int") (u := .type "int") (by rfl) T.rc.int_ (by decide +kernel) rfl) pa_nil))) (pe_one (pe_not (pe_callB call_isi (by rfl) T.rc.isi (by decide +kernel) (pa_cons (pv 0) (pa_cons (pe_bltn (v := .ty "bool") (u := .type "bool") (by rfl) T.rc.bool_ (by decide +kernel) rfl) pa_nil)))))))), ?_⟩
    rcases h with ⟨t, d, q⟩ | ⟨⟨a, dx, fs, rfl, ha⟩, q⟩
    · have d' := d
      cases d with
      | non => exact ⟨_, rfl, _, _, _, _, false, rfl, .ty _, d'.typ, kit_ty (by decide +kernel), false, rfl, iteF q⟩
      | bl b => exact ⟨_, rfl, _, _, _, _, true, rfl, .ty _, d'.typ, kit_ty (by decide +kernel), true, rfl, iteT ⟨_, rfl, _, _, _, _, true, rfl, .ty _, d'.typ, kit_ty (by decide +kernel), true, rfl, q⟩⟩
      | int i => exact ⟨_, rfl, _, _, _, _, true, rfl, .ty _, d'.typ, kit_ty (by decide +kernel), true, rfl, iteT ⟨_, rfl, _, _, _, _, false, rfl, .ty _, d'.typ, kit_ty (by decide +kernel), false, rfl, q⟩⟩
      | str x => exact ⟨_, rfl, _, _, _, _, false, rfl, .ty _, d'.typ, kit_ty (by decide +kernel), false, rfl, iteF q⟩
      | lst e => exact ⟨_, rfl, _, _, _, _, false, rfl, .ty _, d'.typ, kit_ty (by decide +kernel), false, rfl, iteF q⟩
      | tup e => exact ⟨_, rfl, _, _, _, _, false, rfl, .ty _, d'.typ, kit_ty (by decide +kernel), false, rfl, iteF q⟩
      | dK e => exact ⟨_, rfl, _, _, _, _, false, rfl, .ty _, d'.typ, kit_ty (by decide +kernel), false, rfl, iteF q⟩
    · exact ⟨_, rfl, _, _, _, _, false, rfl, .ty _, .base (.ins ha T.rc.cl T.rc.ca T.rc.cn T.rc.ct T.rc.cm), T.kI, false, rfl, iteF q⟩
theorem ok_isN (T : Tx K mg C) : FnOk P w K mg base CX0 2 T.aIsN T.dIsN ["value"] (spIsN C) := by
  have GW : FnOk P w K mg base CX0 1 T.aIsW T.dIsW ["value"] (spIsW C) := ok_isW T
  refine T.FIsN.ok scIsN (fun vs H Q E h => ?_) (fun cdv A outer s H vs Q E hr h => ?_)
  · obtain ⟨v, rfl, _⟩ := h
    rfl
  · obtain ⟨v, rfl, h⟩ := h
    refine ⟨_, (pss_one (ps_ret (pe_or (pe_callB call_isi (by rfl) T.rc.isi (by decide +kernel) (pa_cons (pv 0) (pa_cons (pe_glob (v := .ref C) (by rfl) T.rc.mgC rfl) pa_nil))) (pe_one (pe_call GW hr (by rfl) T.gIsW T.FIsW.kp T.bIsW .nil pass0 (pa_cons (pv 0) pa_nil)))))), ?_⟩
    rcases h with ⟨t, d, q⟩ | ⟨⟨a, dx, fs, rfl, ha⟩, q⟩
    · exact ⟨_, rfl, v, .ref C, .type t, .ref C, false, rfl, .own C, d.typ, T.rc.kB _ d.mem, false, rfl, iteF ⟨_, rfl, v, rfl, .inl ⟨t, d, q⟩⟩⟩
    · exact ⟨_, rfl, .ref a, .ref C, .ref C, .ref C, true, rfl, .own C, .base (.ins ha T.rc.cl T.rc.ca T.rc.cn T.rc.ct T.rc.cm), T.rc.kC, true, rfl, iteT q⟩
theorem ok_init (T : Tx K mg C) : FnOk P w K mg base CX0 2 T.aIni T.dIni ["self", "top", "bottom"] (spInit C) := by
  have GW : FnOk P w K mg base CX0 1 T.aIsW T.dIsW ["value"] (spIsW C) := ok_isW T
  refine T.FIni.ok scIni (fun vs H Q E h => ?_) (fun cdv A outer s H vs Q E hr h => ?_)
  · obtain ⟨p, dx, t, b, rfl, _⟩ := h
    rfl
  · obtain ⟨p, dx, t, b, rfl, h0, hb, hp, q⟩ := h
    refine ⟨_, PSs.nox ((pss_cons (ps_if (pt_not (pt_val (pe_call GW hr (by rfl) T.gIsW T.FIsW.kp T.bIsW .nil pass0 (pa_cons (pv 1) pa_nil)))) (pss_one ps_never) pss_nil)
      (pss_cons (ps_if (pt_not (pt_val (pe_call GW hr (by rfl) T.gIsW T.FIsW.kp T.bIsW .nil pass0 (pa_cons (pv 2) pa_nil)))) (pss_one ps_never) pss_nil)
      (pss_cons (ps_if (pt_cmpR op_eq (pv 2) pe_int (nomark _)) (pss_one ps_never) pss_nil)
      (pss_cons (ps_set (i := 3) scIni.nd rfl (.inl rfl) (pe_callBfun cr_gcd (by rfl) T.rc.gcd (pa_cons (pv 1) (pa_cons (pv 2) pa_nil))))
      (pss_cons (ps_if (pt_cmpR op_lt (pv 2) pe_int (nomark _)) (pss_one (ps_set (i := 3) scIni.nd rfl (.inl rfl) (pe_un un_neg (pv 3)))) pss_nil)
      (pss_cons (ps_fld (pv 0) (pe_op op_fdivZ (pv 1) (pv 3)) rfl)
      (pss_one (ps_fld (pv 0) (pe_op op_fdivZ (pv 2) (pv 3)) rfl))))))))), ?_⟩
    refine ⟨_, rfl, _, rfl, .inl ⟨_, .int t, _, rfl, iteF ?_⟩⟩
    refine ⟨_, rfl, _, rfl, .inl ⟨_, .int b, _, rfl, iteF ?_⟩⟩
    refine ⟨_, rfl, rfl, _, rfl, ?_⟩
    refine ite2 (fun hc => ?_) (fun _ => ?_)
    · exact (h0 (V.int.inj (of_decide_eq_true hc))).elim
    refine ⟨_, rfl, _, rfl, t, b, rfl, ?_⟩
    have hz := sg_ok (u := t) h0 hb
    refine ⟨_, rfl, _, _, rfl, rfl, _, rfl, ?_⟩
    refine ite2 (fun hc => ?_) (fun hc => ?_)
    · have hl : b < 0 := of_decide_eq_true hc
      have e : sg t b = -gI t b := if_pos hl
      refine ⟨_, rfl, _, rfl, ?_⟩
      rw [e] at hz
      refine ⟨_, rfl, _, rfl, t, _, rfl, rfl, hz, _, rfl, p, C, dx, [], rfl, hp, T.rc.cl, T.rc.nT, (by show 0 < 1000; decide), ?_⟩
      refine ⟨_, rfl, _, rfl, b, _, rfl, rfl, hz, _, rfl, p, C, dx, _, rfl, upd_same, T.rc.cl, T.rc.nB, (by show 1 < 1000; decide), ?_⟩
      show Q .non (upd (upd H p _) p _)
      rw [upd_upd]
      unfold nt nb at q
      rw [e] at q
      exact q
    · have hl : ¬ b < 0 := fun z => hc (decide_eq_true z)
      have e : sg t b = gI t b := if_neg hl
      rw [e] at hz
      refine ⟨_, rfl, _, rfl, t, _, rfl, rfl, hz, _, rfl, p, C, dx, [], rfl, hp, T.rc.cl, T.rc.nT, (by show 0 < 1000; decide), ?_⟩
      refine ⟨_, rfl, _, rfl, b, _, rfl, rfl, hz, _, rfl, p, C, dx, _, rfl, upd_same, T.rc.cl, T.rc.nB, (by show 1 < 1000; decide), ?_⟩
      show Q .non (upd (upd H p _) p _)
      rw [upd_upd]
      unfold nt nb at q
      rw [e] at q
      exact q
theorem ok_top0 {f : Addr} {fd : FuncData} (F : Fun K "top" "Ratio.top" sTop f fd) (T : RC K mg C) : FnOk P w K mg base CX0 1 f fd ["self"] (getSp C "_top") := by
  obtain ⟨oc, od, kV, doc, pm, an, cdv, ct, osl, rfl, lk, hcd⟩ := F.ex
  exact fn_getter lk hcd scTop rfl rfl T.cl T.nT
theorem ok_top (T : Tx K mg C) : FnOk P w K mg base CX0 1 T.aTop T.dTop ["self"] (getSp C "_top") := ok_top0 T.FTop T.rc
theorem ok_bot0 {f : Addr} {fd : FuncData} (F : Fun K "bottom" "Ratio.bottom" sBot f fd) (T : RC K mg C) : FnOk P w K mg base CX0 1 f fd ["self"] (getSp C "_bottom") := by
  obtain ⟨oc, od, kV, doc, pm, an, cdv, ct, osl, rfl, lk, hcd⟩ := F.ex
  exact fn_getter lk hcd scBot rfl rfl T.cl T.nB
theorem ok_bot (T : Tx K mg C) : FnOk P w K mg base CX0 1 T.aBot T.dBot ["self"] (getSp C "_bottom") := ok_bot0 T.FBot T.rc
def DTop (T : Tx K mg C) : Df P w K mg base 1 ["self"] (getSp C "_top") := ⟨_, _, ok_top T, T.bTop⟩
def DBot (T : Tx K mg C) : Df P w K mg base 1 ["self"] (getSp C "_bottom") := ⟨_, _, ok_bot T, T.bBot⟩
theorem ok_as (T : Tx K mg C) : FnOk P w K mg base CX0 4 T.aAs T.dAs ["number"] (spAs C) := by
  have GI : FnOk P w K mg base CX0 2 T.aIni T.dIni ["self", "top", "bottom"] (spInit C) := ok_init T
  refine T.FAs.ok scAs (fun vs H Q E h => ?_) (fun cdv A outer s H vs Q E hr h => ?_)
  · obtain ⟨v, k, n, q, rfl, _⟩ := h
    rfl
  · obtain ⟨v, k, n, q, rfl, nv, hl, z⟩ := h
    refine ⟨_, (pss_cons (ps_if (pt_val (pe_callB call_isi (by rfl) T.rc.isi (by decide +kernel) (pa_cons (pv 0) (pa_cons (pe_glob (v := .ref C) (by rfl) T.rc.mgC rfl) pa_nil)))) (pss_one (ps_ret (pv 0))) pss_nil)
      (pss_one (ps_ret (pe_make T.M GI hr (by rfl) T.rc.mgC T.b1 T.vv pass0 (pa_cons (pv 0) pa_nil))))), ?_⟩
    cases k with
    | true =>
      obtain ⟨a, rfl, r⟩ := nv_true nv
      obtain ⟨⟨dx, ha⟩, _⟩ := id r
      exact ⟨_, rfl, .ref a, .ref C, .ref C, .ref C, true, rfl, .own C, .base (.ins ha T.rc.cl T.rc.ca T.rc.cn T.rc.ct T.rc.cm), T.rc.kC, true, rfl, iteT ⟨_, rfl, z a H (Same.refl _) r⟩⟩
    | false =>
      obtain ⟨i, rfl, rfl, hi, h0⟩ := nv
      refine ⟨_, rfl, .int i, .ref C, .type "int", .ref C, false, rfl, .own C, .base (.int i), T.rc.kB _ (by decide), false, rfl, iteF ?_⟩
      refine ⟨_, rfl, fun x dx hx hd hn => mk_fin hx hd hn (by decide) hi (Nat.one_lt_two_pow (by omega)) hl fun H3 S3 rq => ⟨rfl, z _ H3 S3 ?_⟩⟩
      rw [int_is] at rq
      exact rq
end
end T06

namespace T06
open PySem PySem.Spec PyProof.Rows L2 SF SQ
section
variable {P : Program} {w : World} {K : PySem.W.Frag} {mg : Str → Option Value} {base : Heap} {C : Addr}
theorem ok_sum (T : Tx K mg C) : FnOk P w K mg base CX0 4 T.aSum T.dSum ["left", "right"] (sp2 C yes2 (fun q r => q + r) gA) := by
  have GI : FnOk P w K mg base CX0 2 T.aIni T.dIni ["self", "top", "bottom"] (spInit C) := ok_init T
  refine T.FSum.ok scSum (fun vs H Q E h => ?_) (fun cdv A outer s H vs Q E hr h => ?_)
  · obtain ⟨a, b, n, m, q, r, rfl, _⟩ := h
    rfl
  · obtain ⟨a, b, n, m, x, y, rfl, ra, rb, _, hl, z⟩ := h
    have hr2 := hr.mono (show 2 ≤ 3 by decide)
    have bd := sum_bd ra.2 rb.2
    have hl' : n + m + 1 ≤ LIM := hl
    let L : List Sl := [.fr n x, .fr m y]
    have c1 : CMulW x.num y.den := wm ra.2.1 (show (y.den : Int).natAbs < 2 ^ m from rb.2.2) (by omega)
    have c2 : CMulW y.num x.den := wm rb.2.1 (show (x.den : Int).natAbs < 2 ^ n from ra.2.2) (by omega)
    have c3 : CMulW x.den y.den := wm (show (x.den : Int).natAbs < 2 ^ n from ra.2.2) (show (y.den : Int).natAbs < 2 ^ m from rb.2.2) (by omega)
    refine ⟨_, (pss_one (ps_ret (pq_make (G := SQ.Env C L) (n := gA n m) T.M GI T.b2 hr (by rfl) T.rc.mgC Env.gs
      (pI_add Env.gs (pI_mul Env.gs (pI_top T.rc.cl (DTop T) T.PTop hr2 (vq L 0 (pv 0) rfl)) (pI_bot T.rc.cl (DBot T) T.PBot hr2 (vq L 1 (pv 1) rfl))) (pI_mul Env.gs (pI_top T.rc.cl (DTop T) T.PTop hr2 (vq L 1 (pv 1) rfl)) (pI_bot T.rc.cl (DBot T) T.PBot hr2 (vq L 0 (pv 0) rfl))))
      (pI_mul Env.gs (pI_bot T.rc.cl (DBot T) T.PBot hr2 (vq L 0 (pv 0) rfl)) (pI_bot T.rc.cl (DBot T) T.PBot hr2 (vq L 1 (pv 1) rfl))) bd.1 bd.2))), ?_⟩
    refine qs_ret ⟨⟨a, rfl, ra⟩, ⟨b, rfl, rb⟩, trivial⟩ ⟨⟨⟨trivial, trivial, c1⟩, trivial, trivial, c2⟩, ⟨trivial, trivial, c3⟩, den_ne x y, hl⟩ fun p H' S rq => z p H' S ?_
    rw [add_is] at rq
    exact rq
theorem ok_prod (T : Tx K mg C) : FnOk P w K mg base CX0 4 T.aProd T.dProd ["left", "right"] (sp2 C yes2 (fun q r => q * r) gM) := by
  have GI : FnOk P w K mg base CX0 2 T.aIni T.dIni ["self", "top", "bottom"] (spInit C) := ok_init T
  refine T.FProd.ok scProd (fun vs H Q E h => ?_) (fun cdv A outer s H vs Q E hr h => ?_)
  · obtain ⟨a, b, n, m, q, r, rfl, _⟩ := h
    rfl
  · obtain ⟨a, b, n, m, x, y, rfl, ra, rb, _, hl, z⟩ := h
    have hr2 := hr.mono (show 2 ≤ 3 by decide)
    have bd := prod_bd ra.2 rb.2
    have hl' : n + m ≤ LIM := hl
    let L : List Sl := [.fr n x, .fr m y]
    have c1 : CMulW x.num y.num := wm ra.2.1 rb.2.1 (by omega)
    have c3 : CMulW x.den y.den := wm (show (x.den : Int).natAbs < 2 ^ n from ra.2.2) (show (y.den : Int).natAbs < 2 ^ m from rb.2.2) (by omega)
    refine ⟨_, (pss_one (ps_ret (pq_make (G := SQ.Env C L) (n := gM n m) T.M GI T.b2 hr (by rfl) T.rc.mgC Env.gs
      (pI_mul Env.gs (pI_top T.rc.cl (DTop T) T.PTop hr2 (vq L 0 (pv 0) rfl)) (pI_top T.rc.cl (DTop T) T.PTop hr2 (vq L 1 (pv 1) rfl)))
      (pI_mul Env.gs (pI_bot T.rc.cl (DBot T) T.PBot hr2 (vq L 0 (pv 0) rfl)) (pI_bot T.rc.cl (DBot T) T.PBot hr2 (vq L 1 (pv 1) rfl))) bd.1 bd.2))), ?_⟩
    refine qs_ret ⟨⟨a, rfl, ra⟩, ⟨b, rfl, rb⟩, trivial⟩ ⟨⟨trivial, trivial, c1⟩, ⟨trivial, trivial, c3⟩, den_ne x y, hl⟩ fun p H' S rq => z p H' S ?_
    rw [mul_is] at rq
    exact rq
theorem ok_inv (T : Tx K mg C) : FnOk P w K mg base CX0 4 T.aInv T.dInv ["ratio"] (sp1 C nz1 (fun q => q⁻¹)) := by
  have GI : FnOk P w K mg base CX0 2 T.aIni T.dIni ["self", "top", "bottom"] (spInit C) := ok_init T
  refine T.FInv.ok scInv (fun vs H Q E h => ?_) (fun cdv A outer s H vs Q E hr h => ?_)
  · obtain ⟨a, n, q, rfl, _⟩ := h
    rfl
  · obtain ⟨a, n, x, rfl, ra, h0, hl, z⟩ := h
    have hr2 := hr.mono (show 2 ≤ 3 by decide)
    let L : List Sl := [.fr n x]
    refine ⟨_, (pss_one (ps_ret (pq_make (G := SQ.Env C L) (n := n) T.M GI T.b2 hr (by rfl) T.rc.mgC Env.gs
      (pI_bot T.rc.cl (DBot T) T.PBot hr2 (vq L 0 (pv 0) rfl)) (pI_top T.rc.cl (DTop T) T.PTop hr2 (vq L 0 (pv 0) rfl)) (show (x.den : Int).natAbs < 2 ^ n from ra.2.2) ra.2.1))), ?_⟩
    refine qs_ret ⟨⟨a, rfl, ra⟩, trivial⟩ ⟨trivial, trivial, num_ne h0, hl⟩ fun p H' S rq => z p H' S ?_
    rw [inv_is] at rq
    exact rq
theorem ok_flo (T : Tx K mg C) : FnOk P w K mg base CX0 5 T.aFlo T.dFlo ["left", "right"] (sp2 C nz2 fFl gM) := by
  have GI : FnOk P w K mg base CX0 2 T.aIni T.dIni ["self", "top", "bottom"] (spInit C) := ok_init T
  have GP : FnOk P w K mg base CX0 4 T.aProd T.dProd ["left", "right"] (sp2 C yes2 (fun q r => q * r) gM) := ok_prod T
  have GV : FnOk P w K mg base CX0 4 T.aInv T.dInv ["ratio"] (sp1 C nz1 (fun q => q⁻¹)) := ok_inv T
  refine T.FFlo.ok scFlo (fun vs H Q E h => ?_) (fun cdv A outer s H vs Q E hr h => ?_)
  · obtain ⟨a, b, n, m, q, r, rfl, _⟩ := h
    rfl
  · obtain ⟨a, b, n, m, x, y, rfl, ra, rb, h0, hl, z⟩ := h
    have hr2 := hr.mono (show 2 ≤ 4 by decide)
    have hr3 := hr.mono (show 3 ≤ 4 by decide)
    have hl' : n + m ≤ LIM := hl
    have hn := ra.2.pos
    let L : List Sl := [.fr n x, .fr m y]
    let L1 : List Sl := [.fr n x, .fr m y, .fr (gM n m) (x * y⁻¹)]
    have hs : Sz (n + m) (x * y⁻¹) := ra.2.mul (rb.2.inv h0)
    refine ⟨_, (pss_cons (ps_set (i := 2) scFlo.nd rfl (.inl rfl) (pq_call2 (G := SQ.Env C L) GP hr (by rfl) T.gProd T.FProd.kp T.bProd Env.gs (vq L 0 (pv 0) rfl) (pq_call1 GV hr (by rfl) T.gInv T.FInv.kp T.bInv (vq L 1 (pv 1) rfl))))
      (pss_one (ps_ret (pq_make1 (G := SQ.Env C L1) (n := gM n m) T.M GI T.b1 T.vv hr3 (by rfl) T.rc.mgC (pI_fdiv Env.gs (pI_top T.rc.cl (DTop T) T.PTop hr2 (vq L1 2 (pv 2) rfl)) (pI_bot T.rc.cl (DBot T) T.PBot hr2 (vq L1 2 (pv 2) rfl))) (by rw [floor_is]; exact hs.floor.1) (by unfold gM; omega))))), ?_⟩
    refine ⟨⟨⟨a, rfl, ra⟩, ⟨b, rfl, rb⟩, trivial⟩, ⟨trivial, ⟨trivial, h0, by omega⟩, trivial, hl⟩, fun v H1 S1 nv => ?_⟩
    obtain ⟨c, rfl, rc⟩ := nv_true nv
    refine qs_ret ⟨⟨a, rfl, ra.same S1⟩, ⟨b, rfl, rb.same S1⟩, ⟨c, rfl, rc⟩, trivial⟩ ⟨⟨trivial, trivial, denZ _, lg (show (((x * y⁻¹).den : Int)).natAbs < 2 ^ (n + m) from hs.2) hl⟩, hl⟩ fun p H' S rq => z p H' (S1.trans S) ?_
    rw [floor_is] at rq
    exact rq
theorem ok_neg (T : Tx K mg C) : FnOk P w K mg base CX0 4 T.aNeg T.dNeg ["self"] (sp1 C yes1 (fun q => -q)) := by
  have GI : FnOk P w K mg base CX0 2 T.aIni T.dIni ["self", "top", "bottom"] (spInit C) := ok_init T
  refine T.FNeg.ok scNeg (fun vs H Q E h => ?_) (fun cdv A outer s H vs Q E hr h => ?_)
  · obtain ⟨a, n, q, rfl, _⟩ := h
    rfl
  · obtain ⟨a, n, x, rfl, ra, _, hl, z⟩ := h
    let L : List Sl := [.fr n x]
    refine ⟨_, (pss_one (ps_ret (pq_make (G := SQ.Env C L) (n := n) T.M GI T.b2 hr (by rfl) T.rc.mgC Env.gs
      (pI_neg (pI_ftop T.rc.cl T.rc.nT (vq L 0 (pv 0) rfl))) (pI_fbot T.rc.cl T.rc.nB (vq L 0 (pv 0) rfl)) (by rw [Int.natAbs_neg]; exact ra.2.1) (show (x.den : Int).natAbs < 2 ^ n from ra.2.2)))), ?_⟩
    refine qs_ret ⟨⟨a, rfl, ra⟩, trivial⟩ ⟨trivial, trivial, denZ x, hl⟩ fun p H' S rq => z p H' S ?_
    rw [neg_is] at rq
    exact rq
theorem abs_lt {i : Int} {n : Nat} (h : i.natAbs < 2 ^ n) : (if i < 0 then -i else i).natAbs < 2 ^ n := by
  split
  · rw [Int.natAbs_neg]; exact h
  · exact h
theorem ok_abs (T : Tx K mg C) : FnOk P w K mg base CX0 4 T.aAbs T.dAbs ["self"] (sp1 C yes1 Rat.abs) := by
  have GI : FnOk P w K mg base CX0 2 T.aIni T.dIni ["self", "top", "bottom"] (spInit C) := ok_init T
  refine T.FAbs.ok scAbs (fun vs H Q E h => ?_) (fun cdv A outer s H vs Q E hr h => ?_)
  · obtain ⟨a, n, q, rfl, _⟩ := h
    rfl
  · obtain ⟨a, n, x, rfl, ra, _, hl, z⟩ := h
    let L : List Sl := [.fr n x]
    refine ⟨_, (pss_one (ps_ret (pq_make (G := SQ.Env C L) (n := n) T.M GI T.b2 hr (by rfl) T.rc.mgC Env.gs
      (pI_abs (by rfl) T.rc.abs_ (by decide +kernel) (pI_ftop T.rc.cl T.rc.nT (vq L 0 (pv 0) rfl))) (pI_fbot T.rc.cl T.rc.nB (vq L 0 (pv 0) rfl)) (abs_lt ra.2.1) (show (x.den : Int).natAbs < 2 ^ n from ra.2.2)))), ?_⟩
    refine qs_ret ⟨⟨a, rfl, ra⟩, trivial⟩ ⟨trivial, trivial, denZ x, hl⟩ fun p H' S rq => z p H' S ?_
    rw [SQ.abs_is] at rq
    exact rq
def DNeg (T : Tx K mg C) : Df P w K mg base 4 ["self"] (sp1 C yes1 (fun q => -q)) := ⟨_, _, ok_neg T, T.bNeg⟩
theorem ok_rem (T : Tx K mg C) : FnOk P w K mg base CX0 6 T.aRem T.dRem ["left", "right"] (sp2 C nz2 fRem gR) := by
  have GS' : FnOk P w K mg base CX0 4 T.aSum T.dSum ["left", "right"] (sp2 C yes2 (fun q r => q + r) gA) := ok_sum T
  have GP : FnOk P w K mg base CX0 4 T.aProd T.dProd ["left", "right"] (sp2 C yes2 (fun q r => q * r) gM) := ok_prod T
  have GF : FnOk P w K mg base CX0 5 T.aFlo T.dFlo ["left", "right"] (sp2 C nz2 fFl gM) := ok_flo T
  refine T.FRem.ok scRem (fun vs H Q E h => ?_) (fun cdv A outer s H vs Q E hr h => ?_)
  · obtain ⟨a, b, n, m, q, r, rfl, _⟩ := h
    rfl
  · obtain ⟨a, b, n, m, x, y, rfl, ra, rb, h0, hl, z⟩ := h
    have hr4 := hr.mono (show 4 ≤ 5 by decide)
    have hl' : n + (m + (n + m)) + 1 ≤ LIM := hl
    let L : List Sl := [.fr n x, .fr m y]
    refine ⟨_, (pss_one (ps_ret (pq_call2 (G := SQ.Env C L) GS' hr4 (by rfl) T.gSum T.FSum.kp T.bSum Env.gs (vq L 0 (pv 0) rfl)
      (pq_un (un_q (DNeg T) T.hNeg hr4) (pq_call2 GP hr4 (by rfl) T.gProd T.FProd.kp T.bProd Env.gs (vq L 1 (pv 1) rfl) (pq_call2 GF hr (by rfl) T.gFlo T.FFlo.kp T.bFlo Env.gs (vq L 0 (pv 0) rfl) (vq L 1 (pv 1) rfl))))))), ?_⟩
    refine qs_ret ⟨⟨a, rfl, ra⟩, ⟨b, rfl, rb⟩, trivial⟩ ⟨trivial, ⟨⟨trivial, ⟨trivial, trivial, h0, by unfold gM; omega⟩, trivial, by unfold gM; omega⟩, trivial, by unfold gM; omega⟩, trivial, by unfold gA gM; omega⟩ fun p H' S rq => z p H' S ?_
    show RQ C H' p _ (x - y * fFl x y)
    rw [Rat.sub_eq_add_neg]
    exact rq
end
end T06

namespace T06
open PySem PySem.Spec PyProof.Rows L2 SF SQ
section
variable {P : Program} {w : World} {K : PySem.W.Frag} {mg : Str → Option Value} {base : Heap} {C : Addr}

theorem ok_Add (T : Tx K mg C) : FnOk P w K mg base CX0 5 T.aAdd T.dAdd ["self", "other"] (spM C yes2 (fun q r => q + r) gA) := by
  have GN : FnOk P w K mg base CX0 2 T.aIsN T.dIsN ["value"] (spIsN C) := ok_isN T
  have GA : FnOk P w K mg base CX0 4 T.aAs T.dAs ["number"] (spAs C) := ok_as T
  have GO := ok_sum (P := P) (w := w) (base := base) T
  refine T.FAdd.ok scAdd (fun vs H Q E h => ?_) (fun cdv A outer s H vs Q E hr h => ?_)
  · obtain ⟨a, k, v, n, m, q, r, rfl, _⟩ := h
    rfl
  · obtain ⟨a, k, v, n, m, x, y, rfl, ra, nv, hsd, hl, z⟩ := h
    have hr2 := hr.mono (show 2 ≤ 4 by decide)
    have hr4 := hr.mono (show 4 ≤ 4 by decide)
    have hrO := hr.mono (show 4 ≤ 4 by decide)
    have hl' := hl
    simp only [gA, gM, gR] at hl'
    let L : List Sl := [.fr n x, .nv k m y]
    refine ⟨_, (pss_cons (ps_if (pb_not (pb_test (pb_num (G := SQ.Env C L) GN hr2 (by rfl) T.gIsN T.FIsN.kp T.bIsN (vnv L 1 (pv 1) rfl)))) (pss_one ps_never) pss_nil)
      (pss_one (ps_ret (pq_call2 (G := SQ.Env C L) GO hrO (by rfl) T.gSum T.FSum.kp T.bSum Env.gs (vq L 0 (pv 0) rfl) (pq_callA GA hr4 (by rfl) T.gAs T.FAs.kp T.bAs (vnv L 1 (pv 1) rfl)))))), ?_⟩
    refine ⟨⟨⟨a, rfl, ra⟩, ⟨v, rfl, nv⟩, trivial⟩, trivial, fun H1 S1 => iteF ?_⟩
    refine qs_ret ⟨⟨a, rfl, ra.same S1⟩, ⟨v, rfl, nv.same S1⟩, trivial⟩ ⟨trivial, ⟨trivial, by omega⟩, hsd, by simp only [gA, gM, gR]; omega⟩ fun p H' S rq => z p H' (S1.trans S) ?_
    exact rq
theorem ok_Radd (T : Tx K mg C) : FnOk P w K mg base CX0 5 T.aRadd T.dRadd ["self", "other"] (spM C yes2 (fun q r => r + q) (fun n m => gA m n)) := by
  have GN : FnOk P w K mg base CX0 2 T.aIsN T.dIsN ["value"] (spIsN C) := ok_isN T
  have GA : FnOk P w K mg base CX0 4 T.aAs T.dAs ["number"] (spAs C) := ok_as T
  have GO := ok_sum (P := P) (w := w) (base := base) T
  refine T.FRadd.ok scRadd (fun vs H Q E h => ?_) (fun cdv A outer s H vs Q E hr h => ?_)
  · obtain ⟨a, k, v, n, m, q, r, rfl, _⟩ := h
    rfl
  · obtain ⟨a, k, v, n, m, x, y, rfl, ra, nv, hsd, hl, z⟩ := h
    have hr2 := hr.mono (show 2 ≤ 4 by decide)
    have hr4 := hr.mono (show 4 ≤ 4 by decide)
    have hrO := hr.mono (show 4 ≤ 4 by decide)
    have hl' := hl
    simp only [gA, gM, gR] at hl'
    let L : List Sl := [.fr n x, .nv k m y]
    refine ⟨_, (pss_cons (ps_if (pb_not (pb_test (pb_num (G := SQ.Env C L) GN hr2 (by rfl) T.gIsN T.FIsN.kp T.bIsN (vnv L 1 (pv 1) rfl)))) (pss_one ps_never) pss_nil)
      (pss_one (ps_ret (pq_call2 (G := SQ.Env C L) GO hrO (by rfl) T.gSum T.FSum.kp T.bSum Env.gs (pq_callA GA hr4 (by rfl) T.gAs T.FAs.kp T.bAs (vnv L 1 (pv 1) rfl)) (vq L 0 (pv 0) rfl))))), ?_⟩
    refine ⟨⟨⟨a, rfl, ra⟩, ⟨v, rfl, nv⟩, trivial⟩, trivial, fun H1 S1 => iteF ?_⟩
    refine qs_ret ⟨⟨a, rfl, ra.same S1⟩, ⟨v, rfl, nv.same S1⟩, trivial⟩ ⟨⟨trivial, by omega⟩, trivial, hsd, by simp only [gA, gM, gR]; omega⟩ fun p H' S rq => z p H' (S1.trans S) ?_
    exact rq
theorem ok_Sub (T : Tx K mg C) : FnOk P w K mg base CX0 5 T.aSub T.dSub ["self", "other"] (spM C yes2 (fun q r => q - r) gA) := by
  have GN : FnOk P w K mg base CX0 2 T.aIsN T.dIsN ["value"] (spIsN C) := ok_isN T
  have GA : FnOk P w K mg base CX0 4 T.aAs T.dAs ["number"] (spAs C) := ok_as T
  have GO := ok_sum (P := P) (w := w) (base := base) T
  refine T.FSub.ok scSub (fun vs H Q E h => ?_) (fun cdv A outer s H vs Q E hr h => ?_)
  · obtain ⟨a, k, v, n, m, q, r, rfl, _⟩ := h
    rfl
  · obtain ⟨a, k, v, n, m, x, y, rfl, ra, nv, hsd, hl, z⟩ := h
    have hr2 := hr.mono (show 2 ≤ 4 by decide)
    have hr4 := hr.mono (show 4 ≤ 4 by decide)
    have hrO := hr.mono (show 4 ≤ 4 by decide)
    have hl' := hl
    simp only [gA, gM, gR] at hl'
    let L : List Sl := [.fr n x, .nv k m y]
    refine ⟨_, (pss_cons (ps_if (pb_not (pb_test (pb_num (G := SQ.Env C L) GN hr2 (by rfl) T.gIsN T.FIsN.kp T.bIsN (vnv L 1 (pv 1) rfl)))) (pss_one ps_never) pss_nil)
      (pss_one (ps_ret (pq_call2 (G := SQ.Env C L) GO hrO (by rfl) T.gSum T.FSum.kp T.bSum Env.gs (vq L 0 (pv 0) rfl) (pq_un (un_q (DNeg T) T.hNeg hr4) (pq_callA GA hr4 (by rfl) T.gAs T.FAs.kp T.bAs (vnv L 1 (pv 1) rfl))))))), ?_⟩
    refine ⟨⟨⟨a, rfl, ra⟩, ⟨v, rfl, nv⟩, trivial⟩, trivial, fun H1 S1 => iteF ?_⟩
    refine qs_ret ⟨⟨a, rfl, ra.same S1⟩, ⟨v, rfl, nv.same S1⟩, trivial⟩ ⟨trivial, ⟨⟨trivial, by omega⟩, trivial, by omega⟩, hsd, by simp only [gA, gM, gR]; omega⟩ fun p H' S rq => z p H' (S1.trans S) ?_
    show RQ C H' p _ (x - y)
    rw [Rat.sub_eq_add_neg]
    exact rq
theorem ok_Rsub (T : Tx K mg C) : FnOk P w K mg base CX0 5 T.aRsub T.dRsub ["self", "other"] (spM C yes2 (fun q r => r - q) (fun n m => gA m n)) := by
  have GN : FnOk P w K mg base CX0 2 T.aIsN T.dIsN ["value"] (spIsN C) := ok_isN T
  have GA : FnOk P w K mg base CX0 4 T.aAs T.dAs ["number"] (spAs C) := ok_as T
  have GO := ok_sum (P := P) (w := w) (base := base) T
  refine T.FRsub.ok scRsub (fun vs H Q E h => ?_) (fun cdv A outer s H vs Q E hr h => ?_)
  · obtain ⟨a, k, v, n, m, q, r, rfl, _⟩ := h
    rfl
  · obtain ⟨a, k, v, n, m, x, y, rfl, ra, nv, hsd, hl, z⟩ := h
    have hr2 := hr.mono (show 2 ≤ 4 by decide)
    have hr4 := hr.mono (show 4 ≤ 4 by decide)
    have hrO := hr.mono (show 4 ≤ 4 by decide)
    have hl' := hl
    simp only [gA, gM, gR] at hl'
    let L : List Sl := [.fr n x, .nv k m y]
    refine ⟨_, (pss_cons (ps_if (pb_not (pb_test (pb_num (G := SQ.Env C L) GN hr2 (by rfl) T.gIsN T.FIsN.kp T.bIsN (vnv L 1 (pv 1) rfl)))) (pss_one ps_never) pss_nil)
      (pss_one (ps_ret (pq_call2 (G := SQ.Env C L) GO hrO (by rfl) T.gSum T.FSum.kp T.bSum Env.gs (pq_callA GA hr4 (by rfl) T.gAs T.FAs.kp T.bAs (vnv L 1 (pv 1) rfl)) (pq_un (un_q (DNeg T) T.hNeg hr4) (vq L 0 (pv 0) rfl)))))), ?_⟩
    refine ⟨⟨⟨a, rfl, ra⟩, ⟨v, rfl, nv⟩, trivial⟩, trivial, fun H1 S1 => iteF ?_⟩
    refine qs_ret ⟨⟨a, rfl, ra.same S1⟩, ⟨v, rfl, nv.same S1⟩, trivial⟩ ⟨⟨trivial, by omega⟩, ⟨trivial, trivial, by omega⟩, hsd, by simp only [gA, gM, gR]; omega⟩ fun p H' S rq => z p H' (S1.trans S) ?_
    show RQ C H' p _ (y - x)
    rw [Rat.sub_eq_add_neg]
    exact rq
theorem ok_Mul (T : Tx K mg C) : FnOk P w K mg base CX0 5 T.aMul T.dMul ["self", "other"] (spM C yes2 (fun q r => q * r) gM) := by
  have GN : FnOk P w K mg base CX0 2 T.aIsN T.dIsN ["value"] (spIsN C) := ok_isN T
  have GA : FnOk P w K mg base CX0 4 T.aAs T.dAs ["number"] (spAs C) := ok_as T
  have GO := ok_prod (P := P) (w := w) (base := base) T
  refine T.FMul.ok scMul (fun vs H Q E h => ?_) (fun cdv A outer s H vs Q E hr h => ?_)
  · obtain ⟨a, k, v, n, m, q, r, rfl, _⟩ := h
    rfl
  · obtain ⟨a, k, v, n, m, x, y, rfl, ra, nv, hsd, hl, z⟩ := h
    have hr2 := hr.mono (show 2 ≤ 4 by decide)
    have hr4 := hr.mono (show 4 ≤ 4 by decide)
    have hrO := hr.mono (show 4 ≤ 4 by decide)
    have hl' := hl
    simp only [gA, gM, gR] at hl'
    let L : List Sl := [.fr n x, .nv k m y]
    refine ⟨_, (pss_cons (ps_if (pb_not (pb_test (pb_num (G := SQ.Env C L) GN hr2 (by rfl) T.gIsN T.FIsN.kp T.bIsN (vnv L 1 (pv 1) rfl)))) (pss_one ps_never) pss_nil)
      (pss_one (ps_ret (pq_call2 (G := SQ.Env C L) GO hrO (by rfl) T.gProd T.FProd.kp T.bProd Env.gs (vq L 0 (pv 0) rfl) (pq_callA GA hr4 (by rfl) T.gAs T.FAs.kp T.bAs (vnv L 1 (pv 1) rfl)))))), ?_⟩
    refine ⟨⟨⟨a, rfl, ra⟩, ⟨v, rfl, nv⟩, trivial⟩, trivial, fun H1 S1 => iteF ?_⟩
    refine qs_ret ⟨⟨a, rfl, ra.same S1⟩, ⟨v, rfl, nv.same S1⟩, trivial⟩ ⟨trivial, ⟨trivial, by omega⟩, hsd, by simp only [gA, gM, gR]; omega⟩ fun p H' S rq => z p H' (S1.trans S) ?_
    exact rq
theorem ok_Rmul (T : Tx K mg C) : FnOk P w K mg base CX0 5 T.aRmul T.dRmul ["self", "other"] (spM C yes2 (fun q r => r * q) (fun n m => gM m n)) := by
  have GN : FnOk P w K mg base CX0 2 T.aIsN T.dIsN ["value"] (spIsN C) := ok_isN T
  have GA : FnOk P w K mg base CX0 4 T.aAs T.dAs ["number"] (spAs C) := ok_as T
  have GO := ok_prod (P := P) (w := w) (base := base) T
  refine T.FRmul.ok scRmul (fun vs H Q E h => ?_) (fun cdv A outer s H vs Q E hr h => ?_)
  · obtain ⟨a, k, v, n, m, q, r, rfl, _⟩ := h
    rfl
  · obtain ⟨a, k, v, n, m, x, y, rfl, ra, nv, hsd, hl, z⟩ := h
    have hr2 := hr.mono (show 2 ≤ 4 by decide)
    have hr4 := hr.mono (show 4 ≤ 4 by decide)
    have hrO := hr.mono (show 4 ≤ 4 by decide)
    have hl' := hl
    simp only [gA, gM, gR] at hl'
    let L : List Sl := [.fr n x, .nv k m y]
    refine ⟨_, (pss_cons (ps_if (pb_not (pb_test (pb_num (G := SQ.Env C L) GN hr2 (by rfl) T.gIsN T.FIsN.kp T.bIsN (vnv L 1 (pv 1) rfl)))) (pss_one ps_never) pss_nil)
      (pss_one (ps_ret (pq_call2 (G := SQ.Env C L) GO hrO (by rfl) T.gProd T.FProd.kp T.bProd Env.gs (pq_callA GA hr4 (by rfl) T.gAs T.FAs.kp T.bAs (vnv L 1 (pv 1) rfl)) (vq L 0 (pv 0) rfl))))), ?_⟩
    refine ⟨⟨⟨a, rfl, ra⟩, ⟨v, rfl, nv⟩, trivial⟩, trivial, fun H1 S1 => iteF ?_⟩
    refine qs_ret ⟨⟨a, rfl, ra.same S1⟩, ⟨v, rfl, nv.same S1⟩, trivial⟩ ⟨⟨trivial, by omega⟩, trivial, hsd, by simp only [gA, gM, gR]; omega⟩ fun p H' S rq => z p H' (S1.trans S) ?_
    exact rq
theorem ok_FDi (T : Tx K mg C) : FnOk P w K mg base CX0 6 T.aFDi T.dFDi ["self", "other"] (spM C nz2 fFl gM) := by
  have GN : FnOk P w K mg base CX0 2 T.aIsN T.dIsN ["value"] (spIsN C) := ok_isN T
  have GA : FnOk P w K mg base CX0 4 T.aAs T.dAs ["number"] (spAs C) := ok_as T
  have GO := ok_flo (P := P) (w := w) (base := base) T
  refine T.FFDi.ok scFDi (fun vs H Q E h => ?_) (fun cdv A outer s H vs Q E hr h => ?_)
  · obtain ⟨a, k, v, n, m, q, r, rfl, _⟩ := h
    rfl
  · obtain ⟨a, k, v, n, m, x, y, rfl, ra, nv, hsd, hl, z⟩ := h
    have hr2 := hr.mono (show 2 ≤ 5 by decide)
    have hr4 := hr.mono (show 4 ≤ 5 by decide)
    have hrO := hr.mono (show 5 ≤ 5 by decide)
    have hl' := hl
    simp only [gA, gM, gR] at hl'
    let L : List Sl := [.fr n x, .nv k m y]
    refine ⟨_, (pss_cons (ps_if (pb_not (pb_test (pb_num (G := SQ.Env C L) GN hr2 (by rfl) T.gIsN T.FIsN.kp T.bIsN (vnv L 1 (pv 1) rfl)))) (pss_one ps_never) pss_nil)
      (pss_one (ps_ret (pq_call2 (G := SQ.Env C L) GO hrO (by rfl) T.gFlo T.FFlo.kp T.bFlo Env.gs (vq L 0 (pv 0) rfl) (pq_callA GA hr4 (by rfl) T.gAs T.FAs.kp T.bAs (vnv L 1 (pv 1) rfl)))))), ?_⟩
    refine ⟨⟨⟨a, rfl, ra⟩, ⟨v, rfl, nv⟩, trivial⟩, trivial, fun H1 S1 => iteF ?_⟩
    refine qs_ret ⟨⟨a, rfl, ra.same S1⟩, ⟨v, rfl, nv.same S1⟩, trivial⟩ ⟨trivial, ⟨trivial, by omega⟩, hsd, by simp only [gA, gM, gR]; omega⟩ fun p H' S rq => z p H' (S1.trans S) ?_
    exact rq
theorem ok_Mod (T : Tx K mg C) : FnOk P w K mg base CX0 7 T.aMod T.dMod ["self", "other"] (spM C nz2 fRem gR) := by
  have GN : FnOk P w K mg base CX0 2 T.aIsN T.dIsN ["value"] (spIsN C) := ok_isN T
  have GA : FnOk P w K mg base CX0 4 T.aAs T.dAs ["number"] (spAs C) := ok_as T
  have GO := ok_rem (P := P) (w := w) (base := base) T
  refine T.FMod.ok scMod (fun vs H Q E h => ?_) (fun cdv A outer s H vs Q E hr h => ?_)
  · obtain ⟨a, k, v, n, m, q, r, rfl, _⟩ := h
    rfl
  · obtain ⟨a, k, v, n, m, x, y, rfl, ra, nv, hsd, hl, z⟩ := h
    have hr2 := hr.mono (show 2 ≤ 6 by decide)
    have hr4 := hr.mono (show 4 ≤ 6 by decide)
    have hrO := hr.mono (show 6 ≤ 6 by decide)
    have hl' := hl
    simp only [gA, gM, gR] at hl'
    let L : List Sl := [.fr n x, .nv k m y]
    refine ⟨_, (pss_cons (ps_if (pb_not (pb_test (pb_num (G := SQ.Env C L) GN hr2 (by rfl) T.gIsN T.FIsN.kp T.bIsN (vnv L 1 (pv 1) rfl)))) (pss_one ps_never) pss_nil)
      (pss_one (ps_ret (pq_call2 (G := SQ.Env C L) GO hrO (by rfl) T.gRem T.FRem.kp T.bRem Env.gs (vq L 0 (pv 0) rfl) (pq_callA GA hr4 (by rfl) T.gAs T.FAs.kp T.bAs (vnv L 1 (pv 1) rfl)))))), ?_⟩
    refine ⟨⟨⟨a, rfl, ra⟩, ⟨v, rfl, nv⟩, trivial⟩, trivial, fun H1 S1 => iteF ?_⟩
    refine qs_ret ⟨⟨a, rfl, ra.same S1⟩, ⟨v, rfl, nv.same S1⟩, trivial⟩ ⟨trivial, ⟨trivial, by omega⟩, hsd, by simp only [gA, gM, gR]; omega⟩ fun p H' S rq => z p H' (S1.trans S) ?_
    exact rq
theorem ok_Over (T : Tx K mg C) : FnOk P w K mg base CX0 5 T.aOver T.dOver ["self", "other"] (spM C nz2 (fun q r => q / r) gM) := by
  have GN : FnOk P w K mg base CX0 2 T.aIsN T.dIsN ["value"] (spIsN C) := ok_isN T
  have GA : FnOk P w K mg base CX0 4 T.aAs T.dAs ["number"] (spAs C) := ok_as T
  have GP : FnOk P w K mg base CX0 4 T.aProd T.dProd ["left", "right"] (sp2 C yes2 (fun q r => q * r) gM) := ok_prod T
  have GV : FnOk P w K mg base CX0 4 T.aInv T.dInv ["ratio"] (sp1 C nz1 (fun q => q⁻¹)) := ok_inv T
  refine T.FOver.ok scOver (fun vs H Q E h => ?_) (fun cdv A outer s H vs Q E hr h => ?_)
  · obtain ⟨a, k, v, n, m, q, r, rfl, _⟩ := h
    rfl
  · obtain ⟨a, k, v, n, m, x, y, rfl, ra, nv, hsd, hl, z⟩ := h
    have hr2 := hr.mono (show 2 ≤ 4 by decide)
    have hl' := hl
    simp only [gA, gM, gR] at hl'
    let L : List Sl := [.fr n x, .nv k m y]
    refine ⟨_, (pss_cons (ps_if (pb_not (pb_test (pb_num (G := SQ.Env C L) GN hr2 (by rfl) T.gIsN T.FIsN.kp T.bIsN (vnv L 1 (pv 1) rfl)))) (pss_one ps_never) pss_nil)
      (pss_one (ps_ret (pq_call2 (G := SQ.Env C L) GP hr (by rfl) T.gProd T.FProd.kp T.bProd Env.gs (vq L 0 (pv 0) rfl) (pq_call1 GV hr (by rfl) T.gInv T.FInv.kp T.bInv (pq_callA GA hr (by rfl) T.gAs T.FAs.kp T.bAs (vnv L 1 (pv 1) rfl))))))), ?_⟩
    refine ⟨⟨⟨a, rfl, ra⟩, ⟨v, rfl, nv⟩, trivial⟩, trivial, fun H1 S1 => iteF ?_⟩
    exact qs_ret ⟨⟨a, rfl, ra.same S1⟩, ⟨v, rfl, nv.same S1⟩, trivial⟩ ⟨trivial, ⟨⟨trivial, by omega⟩, hsd, by omega⟩, trivial, hl⟩ fun p H' S rq => z p H' (S1.trans S) rq
theorem ok_Bool (T : Tx K mg C) : FnOk P w K mg base CX0 1 T.aBool T.dBool ["self"] (spBool C) := by
  refine T.FBool.ok scBool (fun vs H Q E h => ?_) (fun cdv A outer s H vs Q E hr h => ?_)
  · obtain ⟨a, n, q, rfl, _⟩ := h
    rfl
  · obtain ⟨a, n, x, rfl, ⟨⟨dx, hp⟩, _⟩, q⟩ := h
    refine ⟨_, (pss_one (ps_ret (pe_callTy call_bool1 (by rfl) T.rc.bool_ (by decide +kernel) (pa_cons (pe_fld (pv 0) rfl) pa_nil)))), ?_⟩
    refine ⟨_, rfl, a, C, dx, _, _, rfl, hp, T.rc.cl, T.rc.nT, rf_top _ _, .inl ⟨_, rfl, ?_⟩⟩
    rw [SQ.ne_zero]
    exact q
theorem ok_Eq (T : Tx K mg C) : FnOk P w K mg base CX0 3 T.aEq T.dEq ["self", "other"] (spEq C) := by
  have GW : FnOk P w K mg base CX0 2 T.aIsW T.dIsW ["value"] (spIsW C) := (ok_isW T).mono (by decide)
  have GT : FnOk P w K mg base CX0 1 T.aTop T.dTop ["self"] (getSp C "_top") := ok_top T
  have GB : FnOk P w K mg base CX0 1 T.aBot T.dBot ["self"] (getSp C "_bottom") := ok_bot T
  refine T.FEq.ok scEq (fun vs H Q E h => ?_) (fun cdv A outer s H vs Q E hr h => ?_)
  · obtain ⟨a, n, q, y, rfl, _⟩ := h
    rfl
  · obtain ⟨a, n, x, y, rfl, ⟨⟨dx, hp⟩, _⟩, q⟩ := h
    refine ⟨_, (pss_cons (ps_if (pt_val (pe_callB call_isi (by rfl) T.rc.isi (by decide +kernel) (pa_cons (pv 1) (pa_cons (pe_glob (v := .ref C) (by rfl) T.rc.mgC rfl) pa_nil)))) (pss_one (ps_ret (pe_and (pe_cmpR op_eq (pe_fld (pv 0) rfl) (pe_prop (pv 1) T.rc.cl T.PTop GT hr T.bTop .nil pass0 rfl) (nomark _)) (pe_one (pe_cmpR op_eq (pe_fld (pv 0) rfl) (pe_prop (pv 1) T.rc.cl T.PBot GB hr T.bBot .nil pass0 rfl) (nomark _)))))) pss_nil)
      (pss_one (ps_ret (pe_and (pe_call GW hr (by rfl) T.gIsW T.FIsW.kp T.bIsW .nil pass0 (pa_cons (pv 1) pa_nil)) (pe_and (pe_cmpR op_eq (pe_fld (pv 0) rfl) pe_int (nomark _)) (pe_one (pe_cmpR op_eq (pe_fld (pv 0) rfl) (pv 1) (nomark _)))))))), ?_⟩
    have q2 : (∃ a' m r, y = .ref a' ∧ RQ C H a' m r ∧ Q (.bl (decide (x = r))) H) ∨ ∃ T, Dec H y T ∧ Q (.bl (eqO y x)) H := by
      rcases q with ⟨k, m, r, nv, q⟩ | q
      · cases k with
        | true => obtain ⟨a', e, r'⟩ := nv; exact .inl ⟨a', m, r, e, r', q⟩
        | false =>
          obtain ⟨i, e, e2, _⟩ := nv
          subst e
          subst e2
          exact .inr ⟨_, .int i, q⟩
      · exact .inr q
    rcases q2 with ⟨a', m, r, rfl, ⟨⟨dx', hp'⟩, _⟩, q⟩ | ⟨ty, d, q⟩
    · refine ⟨_, rfl, .ref a', .ref C, .ref C, .ref C, true, rfl, .own C, .base (.ins hp' T.rc.cl T.rc.ca T.rc.cn T.rc.ct T.rc.cm), T.rc.kC, true, rfl, iteT ?_⟩
      refine ⟨_, rfl, a, C, dx, _, _, rfl, hp, T.rc.cl, T.rc.nT, rf_top _ _, _, rfl, a', dx', _, rfl, hp', a', dx', _, _, rfl, hp', rf_top _ _, rfl, _, rfl, ?_⟩
      rw [dint]
      rw [← eq_bools] at q
      refine ite2 (fun hc => ?_) (fun hc => ?_)
      · rw [hc, Bool.true_and] at q
        refine ⟨_, rfl, a, C, dx, _, _, rfl, hp, T.rc.cl, T.rc.nB, rf_bot _ _, _, rfl, a', dx', _, rfl, hp', a', dx', _, _, rfl, hp', rf_bot _ _, rfl, ?_⟩
        rw [dint]
        exact q
      · have e := Bool.eq_false_iff.mpr hc
        rw [e, Bool.false_and] at q
        exact q
    · refine ⟨_, rfl, y, .ref C, .type ty, .ref C, false, rfl, .own C, d.typ, T.rc.kB _ d.mem, false, rfl, iteF ?_⟩
      refine ⟨_, rfl, y, rfl, .inl ⟨ty, d, isI y, rfl, ?_⟩⟩
      cases d with
      | int i =>
        refine iteT ⟨_, rfl, a, C, dx, _, _, rfl, hp, T.rc.cl, T.rc.nB, rf_bot _ _, rfl, _, rfl, ?_⟩
        rw [dint]
        have e0 : eqO (.int i) x = decide (x = (i : Rat)) := rfl
        rw [e0, ← SQ.eq_int] at q
        refine ite2 (fun hc => ?_) (fun hc => ?_)
        · rw [hc, Bool.true_and] at q
          refine ⟨_, rfl, a, C, dx, _, _, rfl, hp, T.rc.cl, T.rc.nT, rf_top _ _, _, rfl, rfl, ?_⟩
          rw [dint]
          exact q
        · have e := Bool.eq_false_iff.mpr hc
          rw [e, Bool.false_and] at q
          exact q
      | non => exact iteF q
      | bl x => exact iteF q
      | str x => exact iteF q
      | lst e => exact iteF q
      | tup e => exact iteF q
      | dK e => exact iteF q
theorem line5 : 5000 ≤ sizeLine := by decide
theorem tlog {i : Int} {n : Nat} (h : i.natAbs < 2 ^ n) (hn : n ≤ 1900) : i.natAbs.log2 < 1920 := Nat.lt_of_lt_of_le (PySem.Flt.log2_lt_of (k := 1900) (by decide) (Nat.lt_of_lt_of_le h (two_le hn))) (by decide)
theorem tx_len {i : Int} {n : Nat} (h : i.natAbs < 2 ^ n) (hn : n ≤ 1900) : (tx i).length ≤ 1921 := PyProof.Rows.int_text_len_1921 (tlog h hn)
theorem ok_Str (T : Tx K mg C) : FnOk P w K mg base CX0 1 T.aStr T.dStr ["self"] (spStr C) := by
  refine T.FStr.ok scStr (fun vs H Q E h => ?_) (fun cdv A outer s H vs Q E hr h => ?_)
  · obtain ⟨a, n, q, rfl, _⟩ := h
    rfl
  · obtain ⟨a, n, x, rfl, ⟨⟨dx, hp⟩, sz⟩, hn, q⟩ := h
    have l5 := line5
    have lt : x.num.natAbs.log2 < 1920 := tlog sz.1 hn
    have lb : ((x.den : Int)).natAbs.log2 < 1920 := tlog (show (x.den : Int).natAbs < 2 ^ n from sz.2) hn
    have x1 : (Str.ofString (toString x.num)).length ≤ 1921 := tx_len sz.1 hn
    have x2 : (Str.ofString (toString (x.den : Int))).length ≤ 1921 := tx_len (show (x.den : Int).natAbs < 2 ^ n from sz.2) hn
    refine ⟨_, (pss_cons (ps_if (pt_cmpR op_eq (pe_fld (pv 0) rfl) pe_int (nomark _)) (pss_one (ps_ret (pe_callTy call_str_int (by rfl) T.rc.str_ (by decide +kernel) (pa_cons (pe_fld (pv 0) rfl) pa_nil)))) pss_nil)
      (pss_one (ps_ret (pe_joined (.cons (pe_fmt (pe_fld (pv 0) rfl)) (.cons pe_str (.cons (pe_fmt (pe_fld (pv 0) rfl)) .nil))))))), ?_⟩
    refine ⟨_, rfl, a, C, dx, _, _, rfl, hp, T.rc.cl, T.rc.nB, rf_bot _ _, rfl, _, rfl, ?_⟩
    refine ite2 (fun hc => ?_) (fun hc => ?_)
    · have e : (x.den : Int) = 1 := V.int.inj (of_decide_eq_true hc)
      refine ⟨_, rfl, a, C, dx, _, _, rfl, hp, T.rc.cl, T.rc.nT, rf_top _ _, _, rfl, lt, ?_⟩
      have e2 : rstr x = tx x.num := if_pos (by omega)
      rw [e2] at q
      exact q
    · have e : ¬ (x.den : Int) = 1 := fun z => hc (decide_eq_true (congrArg V.int z))
      have e2 : rstr x = ((Str.empty ++ tx x.num) ++ ("/" : Str)) ++ tx x.den := if_neg (by omega)
      rw [e2] at q
      have s1 : ("/" : Str).length = 1 := rfl
      refine ⟨_, rfl, a, C, dx, _, _, rfl, hp, T.rc.cl, T.rc.nT, rf_top _ _, .inr ⟨_, rfl, lt, _, rfl, ?_, _, rfl, ?_, _, rfl, a, C, dx, _, _, rfl, hp, T.rc.cl, T.rc.nB, rf_bot _ _, .inr ⟨_, rfl, lb, _, rfl, ?_, q⟩⟩⟩
      · rw [Str.length_append]
        have : Str.empty.length = 0 := rfl
        omega
      · rw [Str.length_append, Str.length_append, s1]
        have : Str.empty.length = 0 := rfl
        omega
      · rw [Str.length_append, Str.length_append, Str.length_append, s1]
        have : Str.empty.length = 0 := rfl
        omega
theorem ok_Repr (T : Tx K mg C) : FnOk P w K mg base CX0 1 T.aRepr T.dRepr ["self"] (spRepr C) := by
  refine T.FRepr.ok scRepr (fun vs H Q E h => ?_) (fun cdv A outer s H vs Q E hr h => ?_)
  · obtain ⟨a, n, q, rfl, _⟩ := h
    rfl
  · obtain ⟨a, n, x, rfl, ⟨⟨dx, hp⟩, sz⟩, hn, q⟩ := h
    have l5 := line5
    have lt : x.num.natAbs.log2 < 1920 := tlog sz.1 hn
    have lb : ((x.den : Int)).natAbs.log2 < 1920 := tlog (show (x.den : Int).natAbs < 2 ^ n from sz.2) hn
    have x1 : (Str.ofString (toString x.num)).length ≤ 1921 := tx_len sz.1 hn
    have x2 : (Str.ofString (toString (x.den : Int))).length ≤ 1921 := tx_len (show (x.den : Int).natAbs < 2 ^ n from sz.2) hn
    have s0 : Str.empty.length = 0 := rfl
    have s1 : ("Ratio(" : Str).length = 6 := rfl
    have s2 : (", " : Str).length = 2 := rfl
    have s3 : (")" : Str).length = 1 := rfl
    refine ⟨_, (pss_one (ps_ret (pe_joined (.cons pe_str (.cons (pe_fmt (pe_fld (pv 0) rfl)) (.cons pe_str (.cons (pe_fmt (pe_fld (pv 0) rfl)) (.cons pe_str .nil)))))))), ?_⟩
    refine ⟨_, rfl, ?_, _, rfl, a, C, dx, _, _, rfl, hp, T.rc.cl, T.rc.nT, rf_top _ _, .inr ⟨_, rfl, lt, _, rfl, ?_, _, rfl, ?_, _, rfl, a, C, dx, _, _, rfl, hp, T.rc.cl, T.rc.nB, rf_bot _ _, .inr ⟨_, rfl, lb, _, rfl, ?_, _, rfl, ?_, q⟩⟩⟩
    · simp only [Str.length_append]; omega
    · simp only [Str.length_append]; omega
    · simp only [Str.length_append]; omega
    · simp only [Str.length_append]; omega
    · simp only [Str.length_append]; omega
theorem ok_WPo (T : Tx K mg C) : FnOk P w K mg base CX0 1 T.aWPo T.dWPo ["base", "times"] spWPow := by
  refine T.FWPo.ok scWPo (fun vs H Q E h => ?_) (fun cdv A outer s H vs Q E hr h => ?_)
  · obtain ⟨b, t, n, rfl, _⟩ := h
    rfl
  · obtain ⟨b, t, n, rfl, ht, hb, hn, h0, q⟩ := h
    refine ⟨_, (pss_cons (ps_set (i := 2) scWPo.nd rfl (.inl rfl) pe_int)
      (pss_cons (ps_for PassesOwn.never rfl (pi_range1 rfl T.rc.range_ (pa_cons (pv 1) pa_nil)) (pg_name (i := 3) scWPo.nd rfl (.inl rfl)) (pss_one (ps_set (i := 2) scWPo.nd rfl (.inl rfl) (pe_op op_mulW (pv 2) (pv 0)))))
      (pss_one (ps_ret (pv 2))))), ?_⟩
    refine ⟨_, rfl, (t : Int), rfl, (by omega), (by omega), for_range (n := t) (fun i σ H' => H' = H ∧ ∃ v, σ = [some (.int b), some (.int (t : Int)), some (.int (b ^ i)), v]) ⟨rfl, none, by rw [Int.pow_zero]; rfl⟩ ?_ ?_⟩
    · rintro i σ H' hi ⟨rfl, v, rfl⟩
      have hp : (b ^ i).natAbs < 2 ^ (n * i + 1) := by
        rw [Int.natAbs_pow]
        refine Nat.lt_of_le_of_lt (Nat.pow_le_pow_left (Nat.le_of_lt hb) i) ?_
        rw [← Nat.pow_mul]
        exact Nat.pow_lt_pow_right (by decide) (by omega)
      have hi' : n * i ≤ n * 19 := Nat.mul_le_mul_left _ (by omega)
      refine ⟨_, rfl, _, rfl, b ^ i, b, rfl, rfl, wm hp hb (by unfold LIM at *; omega), ?_⟩
      refine ⟨rfl, some (V.int (0 + (i : Int))), ?_⟩
      show [_, _, some (V.int (b ^ i * b)), _] = _
      rw [← Int.pow_succ]
    · rintro σ H' ⟨rfl, v, rfl⟩
      exact ⟨_, rfl, q⟩
end
end T06

namespace T06
open PySem PySem.Spec PyProof.Rows L2 SF SQ
section
variable {P : Program} {w : World} {K : PySem.W.Frag} {mg : Str → Option Value} {base : Heap} {C : Addr}
theorem pI_wpo {X : Cx} {G : L2.St → Hp → Prop} {a b : Expr} {i z : Int} {t n l : Nat} {s1 s2 : Prop} {p1 pos : Pos} {x : Str} {D : Addr} {fd : FuncData} {ps : List Str} (F : FnOk X.prog X.w X.K X.mg X.base CX0 l D fd ps spWPow) (hr : Room l X.A) (hg : Gl X x) (hm : X.mg x = some (.ref D)) (hk : PySem.W.keepIn X.K (.ref D) = true) (hb : Binds X.K fd ps []) (hG : GS G)
    (hz : z = (t : Int)) (ht : t ≤ 20) (hi : i.natAbs < 2 ^ n) (hn : n ≤ LIM) (h0 : 0 < n) (ha : PE X a (TI G i s1)) (hb' : PE X b (TI G z s2)) (hdb : (x == ("__debug__" : Str)) = false := by decide)
    (he : starEach (a :: [b]) X.env = (false, eval a X.env) :: starEach [b] X.env := by rfl) (he2 : starEach (b :: []) X.env = (false, eval b X.env) :: starEach [] X.env := by rfl) (hpl : (backTo pos (starEach [b] X.env)).any (·.1) = false := by rfl) :
    PE X (.Call (.Name x p1) [a, b] [] pos) (TI G (i ^ t) (s1 ∧ s2)) :=
  pe_weak (pe_call (E := E0) F hr hg hm hk hb .nil pass0 (pa_cons ha (pa_cons hb' pa_nil he2) he) hdb he hpl) fun σ H Q ⟨hg, ⟨h1, h2⟩, z'⟩ =>
    ⟨hg, h1, fun H1 S1 => ⟨hG _ _ _ hg S1, h2, fun H2 S2 => ⟨i, t, n, by rw [hz]; rfl, ht, hi, hn, h0, z' H2 (S1.trans S2)⟩⟩⟩
theorem T02abs (i : Int) : (if i < 0 then -i else i) = ((i.natAbs : Nat) : Int) := by split <;> omega
theorem ok_Power (T : Tx K mg C) : FnOk P w K mg base CX0 5 T.aPower T.dPower ["self", "exponent"] (spPow C) := by
  have GI : FnOk P w K mg base CX0 2 T.aIni T.dIni ["self", "top", "bottom"] (spInit C) := ok_init T
  have GW : FnOk P w K mg base CX0 4 T.aIsW T.dIsW ["value"] (spIsW C) := (ok_isW T).mono (by decide)
  have GV : FnOk P w K mg base CX0 4 T.aInv T.dInv ["ratio"] (sp1 C nz1 (fun q => q⁻¹)) := ok_inv T
  have GP : FnOk P w K mg base CX0 1 T.aWPo T.dWPo ["base", "times"] spWPow := ok_WPo T
  refine T.FPower.ok scPower (fun vs H Q E h => ?_) (fun cdv A outer s H vs Q E hr h => ?_)
  · obtain ⟨a, n, q, e, rfl, _⟩ := h
    rfl
  · obtain ⟨a, n, x, e, rfl, ra, e0, e1, hx, hl, hn, z⟩ := h
    have hr1 := hr.mono (show 1 ≤ 4 by decide)
    have hr2 := hr.mono (show 2 ≤ 4 by decide)
    have hr3 := hr.mono (show 3 ≤ 4 by decide)
    let y : Rat := if e < 0 then x⁻¹ else x
    have hy : (e < 0 → y = x⁻¹) ∧ (¬ e < 0 → y = x) := ⟨fun h => if_pos h, fun h => if_neg h⟩
    have sy : Sz n y := by
      by_cases h : e < 0
      · rw [hy.1 h]; exact ra.2.inv (hx.resolve_right (by omega))
      · rw [hy.2 h]; exact ra.2
    have hpow : y ^ e.natAbs = x ^ e := by
      by_cases h : e < 0
      · rw [hy.1 h]; exact zpow_neg_is x h
      · rw [hy.2 h]; exact zpow_pos_is x (by omega)
    clear_value y
    have ht : e.natAbs ≤ 20 := by omega
    have sp := sy.pow e.natAbs
    let L0 : List Sl := [.fr n x, .i e, .any, .any]
    let L1 : List Sl := [.fr n x, .i e, .fr n y, .any]
    let L2 : List Sl := [.fr n x, .i e, .fr n y, .i (if e < 0 then -e else e)]
    refine ⟨_, PSs.nox (pss_cons (ps_if (PW.pt (pw_or (pt_not (pt_val (pe_call GW hr (by rfl) T.gIsW T.FIsW.kp T.bIsW .nil pass0 (pa_cons (pv 1) pa_nil)))) (pw_or (pt_cmpR op_lt (pv 1) (pe_un un_neg (pe_glob (v := .int 20) (by rfl) T.mp ⟨_, rfl⟩)) (nomark _)) (pw_or1 (pt_cmpR op_gt (pv 1) (pe_glob (v := .int 20) (by rfl) T.mp ⟨_, rfl⟩) (nomark _)))))) (pss_one ps_never) pss_nil)
      (pss_cons (ps_set (i := 2) scPower.nd rfl (.inl rfl) (pv 0))
      (pss_cons (ps_if (pt_cmpR op_lt (pv 1) pe_int (nomark _)) (pss_one (ps_set (i := 2) scPower.nd rfl (.inl rfl) (pq_call1 (G := SQ.Env C L0) GV hr (by rfl) T.gInv T.FInv.kp T.bInv (vq L0 0 (pv 0) rfl)))) pss_nil)
      (pss_cons (ps_set (i := 3) scPower.nd rfl (.inl rfl) (pI_abs (G := SQ.Env C L1) (by rfl) T.rc.abs_ (by decide +kernel) (vi L1 1 (pv 1) rfl)))
      (pss_one (ps_ret (pq_make (G := SQ.Env C L2) (n := n * e.natAbs + 1) T.M GI T.b2 hr3 (by rfl) T.rc.mgC Env.gs
        (pI_wpo GP hr1 (by rfl) T.gWPo T.FWPo.kp T.bWPo Env.gs (T02abs e) ht sy.1 hn sy.pos (pI_top T.rc.cl (DTop T) T.PTop hr2 (vq L2 2 (pv 2) rfl)) (vi L2 3 (pv 3) rfl))
        (pI_wpo GP hr1 (by rfl) T.gWPo T.FWPo.kp T.bWPo Env.gs (T02abs e) ht (show (y.den : Int).natAbs < 2 ^ n from sy.2) hn sy.pos (pI_bot T.rc.cl (DBot T) T.PBot hr2 (vq L2 2 (pv 2) rfl)) (vi L2 3 (pv 3) rfl)) (by rw [← Rat.num_pow]; exact sp.1) (by have e := sp.2; rw [Rat.den_pow] at e; rw [Int.natAbs_pow]; exact e)))))))), ?_⟩
    refine ⟨_, rfl, _, rfl, .inl ⟨_, .int e, _, rfl, ?_⟩⟩
    refine iteF ⟨_, rfl, _, rfl, _, _, rfl, rfl, _, rfl, ?_⟩
    rw [decide_eq_false (show ¬ e < -20 by omega)]
    refine iteF ⟨_, rfl, _, _, rfl, rfl, _, rfl, ?_⟩
    rw [decide_eq_false (show ¬ e > 20 by omega)]
    refine iteF ⟨_, rfl, ?_⟩
    refine ⟨_, rfl, _, _, rfl, rfl, _, rfl, ?_⟩
    refine ite2 (fun hc => ?_) (fun hc => ?_)
    · have h : e < 0 := of_decide_eq_true hc
      refine ⟨⟨⟨a, rfl, ra⟩, rfl, trivial, trivial, trivial⟩, ⟨trivial, hx.resolve_right (by omega), hn⟩, fun v H1 S1 nv => ?_⟩
      obtain ⟨b, rfl, rb⟩ := nv_true nv
      rw [← hy.1 h] at rb
      exact ⟨⟨⟨a, rfl, ra.same S1⟩, rfl, ⟨b, rfl, rb⟩, trivial, trivial⟩, trivial, fun H2 S2 => qs_ret ⟨⟨a, rfl, (ra.same S1).same S2⟩, rfl, ⟨b, rfl, rb.same S2⟩, rfl, trivial⟩ ⟨⟨trivial, trivial⟩, ⟨trivial, trivial⟩, Int.pow_ne_zero (denZ y), hl⟩ fun p H3 S3 rq => z p H3 ((S1.trans S2).trans S3) (by rw [pow_is, hpow] at rq; exact rq)⟩
    · have h : ¬ e < 0 := fun z => hc (decide_eq_true z)
      have rb : RQ C H a n y := by rw [hy.2 h]; exact ra
      exact ⟨⟨⟨a, rfl, ra⟩, rfl, ⟨a, rfl, rb⟩, trivial, trivial⟩, trivial, fun H2 S2 => qs_ret ⟨⟨a, rfl, ra.same S2⟩, rfl, ⟨a, rfl, rb.same S2⟩, rfl, trivial⟩ ⟨⟨trivial, trivial⟩, ⟨trivial, trivial⟩, Int.pow_ne_zero (denZ y), hl⟩ fun p H3 S3 rq => z p H3 (S2.trans S3) (by rw [pow_is, hpow] at rq; exact rq)⟩
def DPower (T : Tx K mg C) : Df P w K mg base 5 ["self", "exponent"] (spPow C) := ⟨_, _, ok_Power T, T.bPower⟩
theorem mPower (T : Tx K mg C) : Meth K C "power" T.aPower := ⟨T.hPower.h, T.hPower.i, T.FPower.kp⟩
theorem ok_Pow (T : Tx K mg C) : FnOk P w K mg base CX0 6 T.aPow T.dPow ["self", "other"] (spPow C) := by
  refine T.FPow.ok scPow (fun vs H Q E h => ?_) (fun cdv A outer s H vs Q E hr h => ?_)
  · obtain ⟨a, n, q, e, rfl, _⟩ := h
    rfl
  · obtain ⟨a, n, x, e, rfl, ra, e0, e1, hx, hl, hn, z⟩ := h
    let L : List Sl := [.fr n x, .i e]
    refine ⟨_, (pss_one (ps_ret (pq_power (G := SQ.Env C L) T.rc.cl (DPower T) (mPower T) hr Env.gs (vq L 0 (pv 0) rfl) (vi L 1 (pv 1) rfl)))), ?_⟩
    exact qs_ret ⟨⟨a, rfl, ra⟩, rfl, trivial⟩ ⟨trivial, trivial, e0, e1, hx, hl, hn⟩ fun p H3 S3 rq => z p H3 S3 rq
end
end T06

namespace T06
open PySem PySem.Spec PyProof.Rows L2 SF SQ
section
variable {P : Program} {w : World} {K : PySem.W.Frag} {mg : Str → Option Value} {base : Heap} {C : Addr}
theorem line640 : 640 ≤ sizeLine := by decide
theorem ok_IsP (T : Tx K mg C) : FnOk P w K mg base CX0 1 T.aIsP T.dIsP ["text"] spIsP := by
  refine T.FIsP.ok scIsP (fun vs H Q E h => ?_) (fun cdv A outer s H vs Q E hr h => ?_)
  · obtain ⟨x, rfl, _⟩ := h
    rfl
  · obtain ⟨x, rfl, hl, q⟩ := h
    refine ⟨_, (pss_one (ps_ret (pe_and (pe_m0 F.slot_str_isascii F.type_str_isascii mt_isascii (pv 0)) (pe_and (pe_m0 F.slot_str_isdigit F.type_str_isdigit mt_isdigit (pv 0)) (pe_one (pe_cmpR op_ne (pe_ix ix_str (pv 0) pe_int (fun _ _ => rfl)) pe_str (nomark _))))))), ?_⟩
    have e0 : posT x = (Txt.isascii x && (Txt.isdigit x && !decide ((TL.tl x).head? = some 48))) := rfl
    rw [e0] at q
    refine ⟨_, rfl, ⟨_, rfl⟩, x, rfl, rfl, trivial, _, rfl, ?_⟩
    refine ite2 (fun h1 => ?_) (fun h1 => ?_)
    · rw [h1, Bool.true_and] at q
      refine ⟨_, rfl, ⟨_, rfl⟩, x, rfl, rfl, trivial, _, rfl, ?_⟩
      refine ite2 (fun h2 => ?_) (fun h2 => ?_)
      · rw [h2, Bool.true_and] at q
        obtain ⟨c, l, e⟩ : ∃ c l, TL.tl x = c :: l := by
          cases e : TL.tl x with
          | nil =>
            unfold Txt.isdigit at h2
            have := of_decide_eq_true (Bool.and_eq_true_iff.mp h2).1
            rw [TL.len_tl, e] at this
            exact absurd this (by simp)
          | cons c l => exact ⟨c, l, rfl⟩
        refine ⟨_, rfl, x, 0, c, rfl, rfl, Nat.le_trans hl line640, (by rw [show x.cps.toList = c :: l from e]; show atI (c :: l) ((0 : Nat) : Int) = some c; exact atI_nat rfl), rfl, ?_⟩
        have e2 : decide (V.str ⟨#[c]⟩ = V.str "0") = decide ((TL.tl x).head? = some 48) := by
          rw [e]
          by_cases hc : c = 48
          · subst hc; rfl
          · rw [decide_eq_false (fun z => hc (by have z1 := congrArg (fun s : Str => TL.tl s) (V.str.inj z); have z2 : [c] = [48] := z1; injection z2)), decide_eq_false (fun z => hc (by injection z))]
        rw [e2]
        exact q
      · rw [Bool.eq_false_iff.mpr h2, Bool.false_and] at q
        exact q
    · rw [Bool.eq_false_iff.mpr h1, Bool.false_and] at q
      exact q
theorem str_emp {x : Str} : decide (V.str x = V.str "") = decide (x = ("" : Str)) := by
  by_cases h : x = ""
  · rw [h]; simp
  · rw [decide_eq_false h, decide_eq_false (fun z => h (V.str.inj z))]
theorem str_dec {x y : Str} : decide (V.str x = V.str y) = decide (x = y) := by
  by_cases h : x = y
  · rw [h]; simp
  · rw [decide_eq_false h, decide_eq_false (fun z => h (V.str.inj z))]
theorem rp_len (x : Str) : (Txt.removeprefix x "-").length ≤ x.length := by
  by_cases h : (TL.tl x).head? = some 45
  · cases e : TL.tl x with
    | nil => rw [e] at h; cases h
    | cons c l =>
      rw [e] at h
      simp at h
      subst h
      rw [TL.len_tl, TL.len_tl, rp_neg e, e]
      simp
  · rw [rp_same h]; exact Nat.le_refl _
theorem top_test {σ : L2.St} {H : Hp} {Q : Bool → Hp → Prop} {a : Str} (ha : σ[1]? = some (some (V.str a))) (la : a.length ≤ 640) (z : Q (!(decide (a = ("0" : Str)) || posT (Txt.removeprefix a "-"))) H) :
    tAnd (tTest (tOp rNe (tVar 1) (tC (V.str "0")))) (tNot (tB (tCall spIsP [] E0 (tCons (tM1 (fun x xs H Q => ∃ a b, x = .str a ∧ xs = [.str b] ∧ a.length ≤ sizeLine ∧ Q (.str (Txt.removeprefix a b)) H) (tVar 1) (tC (V.str "-"))) tNil)))) σ H Q := by
  have l6 := line640
  have lr := rp_len a
  refine ⟨_, ha, rfl, _, rfl, ?_⟩
  rw [str_dec]
  by_cases h : a = ("0" : Str)
  · rw [decide_eq_true h] at z ⊢
    exact iteF z
  · rw [decide_eq_false h, Bool.false_or] at z
    rw [decide_eq_false h]
    exact iteT ⟨_, ha, ⟨_, rfl⟩, a, "-", rfl, rfl, Nat.le_trans la l6, _, rfl, by omega, _, rfl, z⟩
theorem ok_IsT (T : Tx K mg C) : FnOk P w K mg base CX0 2 T.aIsT T.dIsT ["text"] spIsT := by
  have GP : FnOk P w K mg base CX0 1 T.aIsP T.dIsP ["text"] spIsP := ok_IsP T
  refine T.FIsT.ok scIsT (fun vs H Q E h => ?_) (fun cdv A outer s H vs Q E hr h => ?_)
  · obtain ⟨x, rfl, _⟩ := h
    rfl
  · obtain ⟨x, rfl, hl, q⟩ := h
    have l6 := line640
    refine ⟨_, (pss_cons (ps_if (pt_not (pt_val (pe_callB call_isi (by rfl) T.rc.isi (by decide +kernel) (pa_cons (pv 0) (pa_cons (pe_bltn (v := .ty "str") (u := .type "str") (by rfl) T.rc.str_ (by decide +kernel) rfl) pa_nil))))) (pss_one (ps_ret pe_bl)) pss_nil)
      (pss_cons (ps_asg (pe_partition (pv 0) pe_str) (pg_tup rfl (pgs_cons (pg_name (i := 1) scIsT.nd rfl (.inl rfl)) (pgs_cons (pg_name (i := 2) scIsT.nd rfl (.inl rfl)) (pgs_cons (pg_name (i := 3) scIsT.nd rfl (.inl rfl)) pgs_nil)))))
      (pss_cons (ps_if (pt_weak (t' := fun σ H Q => ∃ a : Str, σ[1]? = some (some (V.str a)) ∧ a.length ≤ 640 ∧ Q (!(decide (a = ("0" : Str)) || posT (Txt.removeprefix a "-"))) H) (PW.pt (pw_and (pt_cmpR op_ne (pv 1) pe_str (nomark _)) (pw_and1 (pt_not (pt_val (pe_call GP hr (by rfl) T.gIsP T.FIsP.kp T.bIsP .nil pass0 (pa_cons (pe_m1 F.slot_str_removeprefix F.type_str_removeprefix mt_removeprefix (pv 1) pe_str) pa_nil))))))) (fun σ H Q ⟨a, ha, la, z⟩ => top_test ha la z)) (pss_one (ps_ret pe_bl)) pss_nil)
      (pss_cons (ps_if (pt_cmpR op_eq (pv 2) pe_str (nomark _)) (pss_one (ps_ret pe_bl)) pss_nil)
      (pss_one (ps_ret (pe_and (pe_call GP hr (by rfl) T.gIsP T.FIsP.kp T.bIsP .nil pass0 (pa_cons (pv 3) pa_nil)) (pe_and (pe_cmpR op_ne (pv 3) pe_str (nomark _)) (pe_one (pe_cmpR op_eq (pe_callBfun cr_gcd (by rfl) T.rc.gcd (pa_cons (pe_callTy call_int_str (by rfl) T.rc.int_ (by decide +kernel) (pa_cons (pv 1) pa_nil)) (pa_cons (pe_callTy call_int_str (by rfl) T.rc.int_ (by decide +kernel) (pa_cons (pv 3) pa_nil)) pa_nil))) pe_int (nomark _))))))))))), ?_⟩
    refine ⟨_, rfl, _, _, _, _, true, rfl, .ty _, (Dec.str x).typ, kit_ty (by decide +kernel), true, rfl, iteF ?_⟩
    refine ⟨_, rfl, ⟨_, rfl⟩, x, "/", rfl, rfl, rfl, Nat.le_trans hl l6, fun t nt => ?_⟩
    generalize hE : upd H t _ = H1
    have ht := upd_got hE
    have st := upd_stay hE nt
    have q := q H1 st
    have pl := part_len x
    unfold isTx at q
    generalize Txt.partition x "/" = pp at ht q pl
    obtain ⟨a, b, c⟩ := pp
    dsimp only at ht q pl
    refine ⟨t, _, rfl, SqT.of ht, rfl, _, _, rfl, _, _, rfl, _, _, rfl, rfl, ?_⟩
    have la : a.length ≤ 640 := Nat.le_trans pl.1 hl
    have lc : c.length ≤ 640 := Nat.le_trans pl.2 hl
    refine ⟨a, rfl, la, ?_⟩
    refine ite2 (fun h1 => ?_) (fun h1 => ?_)
    · have e : (decide (a = ("0" : Str)) || posT (Txt.removeprefix a "-")) = false := by simpa using h1
      rw [e, Bool.false_and] at q
      exact q
    have htop : (decide (a = ("0" : Str)) || posT (Txt.removeprefix a "-")) = true := by cases e : (decide (a = ("0" : Str)) || posT (Txt.removeprefix a "-")) with | true => rfl | false => rw [e] at h1; exact absurd rfl h1
    rw [htop, Bool.true_and] at q
    refine ⟨_, rfl, rfl, _, rfl, ?_⟩
    rw [str_dec]
    refine ite2 (fun h2 => ?_) (fun h2 => ?_)
    · rw [h2, Bool.true_or] at q
      exact q
    rw [Bool.eq_false_iff.mpr h2, Bool.false_or] at q
    refine ⟨_, rfl, c, rfl, lc, _, rfl, ?_⟩
    refine ite2 (fun h3 => ?_) (fun h3 => ?_)
    · rw [h3, Bool.true_and] at q
      refine ⟨_, rfl, rfl, _, rfl, ?_⟩
      rw [str_dec]
      refine ite2 (fun h4 => ?_) (fun h4 => ?_)
      · rw [h4, Bool.true_and] at q
        refine ⟨_, rfl, a, iv a, rfl, iv_top htop (by omega), la, _, rfl, c, iv c, rfl, iv_pos h3 (by omega), lc, _, _, rfl, rfl, ?_⟩
        rw [dint]
        exact q
      · rw [Bool.eq_false_iff.mpr h4, Bool.false_and] at q
        exact q
    · rw [Bool.eq_false_iff.mpr h3, Bool.false_and] at q
      exact q
theorem ok_Rd (T : Tx K mg C) : FnOk P w K mg base CX0 4 T.aRd T.dRd ["cls", "text"] (spRd C) := by
  have GI : FnOk P w K mg base CX0 2 T.aIni T.dIni ["self", "top", "bottom"] (spInit C) := ok_init T
  have GT : FnOk P w K mg base CX0 2 T.aIsT T.dIsT ["text"] spIsT := ok_IsT T
  refine T.FRd.ok scRd (fun vs H Q E h => ?_) (fun cdv A outer s H vs Q E hr h => ?_)
  · obtain ⟨x, rfl, _⟩ := h
    rfl
  · obtain ⟨x, rfl, hl, hx, q⟩ := h
    have l6 := line640
    have hr2 := hr.mono (show 2 ≤ 3 by decide)
    refine ⟨_, PSs.nox (pss_cons (ps_if (pt_not (pt_val (pe_call GT hr2 (by rfl) T.gIsT T.FIsT.kp T.bIsT .nil pass0 (pa_cons (pv 1) pa_nil)))) (pss_one ps_never) pss_nil)
      (pss_cons (ps_asg (pe_partition (pv 1) pe_str) (pg_tup rfl (pgs_cons (pg_name (i := 2) scRd.nd rfl (.inl rfl)) (pgs_cons (pg_name (i := 3) scRd.nd rfl (.inl rfl)) (pgs_cons (pg_name (i := 4) scRd.nd rfl (.inl rfl)) pgs_nil)))))
      (pss_cons (ps_if (pt_cmpR op_eq (pv 3) pe_str (nomark _)) (pss_one (ps_ret (pe_makeL (i := 0) T.M GI hr rfl (.inl rfl) T.b1 T.vv pass0 (pa_cons (pe_callTy call_int_str (by rfl) T.rc.int_ (by decide +kernel) (pa_cons (pv 2) pa_nil)) pa_nil)))) pss_nil)
      (pss_one (ps_ret (pe_makeL (i := 0) T.M GI hr rfl (.inl rfl) T.b2 .nil pass0 (pa_cons (pe_callTy call_int_str (by rfl) T.rc.int_ (by decide +kernel) (pa_cons (pv 2) pa_nil)) (pa_cons (pe_callTy call_int_str (by rfl) T.rc.int_ (by decide +kernel) (pa_cons (pv 4) pa_nil)) pa_nil)))))))), ?_⟩
    refine ⟨_, rfl, x, rfl, hl, fun H0 s0 => ⟨_, rfl, ?_⟩⟩
    rw [hx]
    refine iteF ?_
    refine ⟨_, rfl, ⟨_, rfl⟩, x, "/", rfl, rfl, rfl, Nat.le_trans hl l6, fun t nt => ?_⟩
    generalize hE : upd H0 t _ = H1
    have ht := upd_got hE
    have st := upd_stay hE nt
    have s1 := s0.trans st
    have pl := part_len x
    unfold isTx at hx
    unfold rdq at q
    generalize Txt.partition x "/" = pp at ht q pl hx
    obtain ⟨a, b, c⟩ := pp
    dsimp only at ht q pl hx
    have la : a.length ≤ 640 := Nat.le_trans pl.1 hl
    have lc : c.length ≤ 640 := Nat.le_trans pl.2 hl
    obtain ⟨htop, hx⟩ := Bool.and_eq_true_iff.mp hx
    have ai := iv_lt htop la
    refine ⟨t, _, rfl, SqT.of ht, rfl, _, _, rfl, _, _, rfl, _, _, rfl, rfl, ?_⟩
    refine ⟨_, rfl, rfl, _, rfl, ?_⟩
    rw [str_dec]
    refine ite2 (fun h2 => ?_) (fun h2 => ?_)
    · have h2 : b = ("" : Str) := of_decide_eq_true h2
      rw [if_pos h2] at q
      refine ⟨rfl, _, rfl, a, iv a, rfl, iv_top htop (by omega), la, ?_⟩
      refine fun x dx hx hd hn => mk_fin hx hd hn (by decide) ai (Nat.one_lt_two_pow (by decide)) (by decide) fun H3 S3 rq => ⟨rfl, q _ H3 (s1.trans S3) ?_⟩
      rw [int_is] at rq
      exact rq
    · have h2 : ¬ b = ("" : Str) := fun z => h2 (decide_eq_true z)
      rw [if_neg h2] at q
      rw [decide_eq_false h2, Bool.false_or] at hx
      obtain ⟨hc, _⟩ := Bool.and_eq_true_iff.mp hx
      refine ⟨rfl, _, rfl, a, iv a, rfl, iv_top htop (by omega), la, _, rfl, c, iv c, rfl, iv_pos hc (by omega), lc, ?_⟩
      exact fun x dx hx hd hn => mk_fin hx hd hn (ivp_ne hc lc) ai (ivp_lt hc lc) (by decide) fun H3 S3 rq => ⟨rfl, q _ H3 (s1.trans S3) rq⟩
end
end T06

namespace T06
open PySem PySem.Spec PyProof.Rows L2 SF SQ
section
variable {P : Program} {w : World} {K : PySem.W.Frag} {mg : Str → Option Value} {base : Heap} {C : Addr}
def DAdd (T : Tx K mg C) : Df P w K mg base 5 ["self", "other"] (spM C yes2 (fun q r => q + r) gA) := ⟨_, _, ok_Add T, T.bAdd⟩
def DRadd (T : Tx K mg C) : Df P w K mg base 5 ["self", "other"] (spM C yes2 (fun q r => r + q) (fun n m => gA m n)) := ⟨_, _, ok_Radd T, T.bRadd⟩
def DSub (T : Tx K mg C) : Df P w K mg base 5 ["self", "other"] (spM C yes2 (fun q r => q - r) gA) := ⟨_, _, ok_Sub T, T.bSub⟩
def DRsub (T : Tx K mg C) : Df P w K mg base 5 ["self", "other"] (spM C yes2 (fun q r => r - q) (fun n m => gA m n)) := ⟨_, _, ok_Rsub T, T.bRsub⟩
def DMul (T : Tx K mg C) : Df P w K mg base 5 ["self", "other"] (spM C yes2 (fun q r => q * r) gM) := ⟨_, _, ok_Mul T, T.bMul⟩
def DRmul (T : Tx K mg C) : Df P w K mg base 5 ["self", "other"] (spM C yes2 (fun q r => r * q) (fun n m => gM m n)) := ⟨_, _, ok_Rmul T, T.bRmul⟩
def DFDi (T : Tx K mg C) : Df P w K mg base 6 ["self", "other"] (spM C nz2 fFl gM) := ⟨_, _, ok_FDi T, T.bFDi⟩
def DMod (T : Tx K mg C) : Df P w K mg base 7 ["self", "other"] (spM C nz2 fRem gR) := ⟨_, _, ok_Mod T, T.bMod⟩
def DOver (T : Tx K mg C) : Df P w K mg base 5 ["self", "other"] (spM C nz2 (fun q r => q / r) gM) := ⟨_, _, ok_Over T, T.bOver⟩
def DAbs (T : Tx K mg C) : Df P w K mg base 4 ["self"] (sp1 C yes1 Rat.abs) := ⟨_, _, ok_abs T, T.bAbs⟩
def DBool (T : Tx K mg C) : Df P w K mg base 1 ["self"] (spBool C) := ⟨_, _, ok_Bool T, T.bBool⟩
def DEq (T : Tx K mg C) : Df P w K mg base 3 ["self", "other"] (spEq C) := ⟨_, _, ok_Eq T, T.bEq⟩
def DStr (T : Tx K mg C) : Df P w K mg base 1 ["self"] (spStr C) := ⟨_, _, ok_Str T, T.bStr⟩
def DRepr (T : Tx K mg C) : Df P w K mg base 1 ["self"] (spRepr C) := ⟨_, _, ok_Repr T, T.bRepr⟩
def DPow (T : Tx K mg C) : Df P w K mg base 6 ["self", "other"] (spPow C) := ⟨_, _, ok_Pow T, T.bPow⟩
theorem mOver (T : Tx K mg C) : Meth K C "over" T.aOver := ⟨T.hOver.h, T.hOver.i, T.FOver.kp⟩
theorem eAdd : PySem.dunder (Operator.info .Add).2 = ("__add__" : Str) := by decide +kernel
theorem fAdd : dunderR (Operator.info .Add).2 = ("__radd__" : Str) := by decide +kernel
theorem oAdd (T : Tx K mg C) : OwnOp K C .Add T.aAdd := ⟨T.sf, by rw [eAdd]; exact T.hAdd.h, T.hAdd.i, ⟨_, by rw [fAdd]; exact T.hRadd.h, .inr ⟨_, rfl⟩⟩, by rw [eAdd]; exact T.t_add, by rw [fAdd]; exact T.t_radd, T.sIC.h⟩
theorem oRadd (T : Tx K mg C) : OwnOpR K C .Add T.aAdd T.aRadd := ⟨T.sf, by rw [eAdd]; exact T.hAdd.h, by rw [fAdd]; exact T.hRadd.h, T.hRadd.i, T.sCI⟩
theorem eSub : PySem.dunder (Operator.info .Sub).2 = ("__sub__" : Str) := by decide +kernel
theorem fSub : dunderR (Operator.info .Sub).2 = ("__rsub__" : Str) := by decide +kernel
theorem oSub (T : Tx K mg C) : OwnOp K C .Sub T.aSub := ⟨T.sf, by rw [eSub]; exact T.hSub.h, T.hSub.i, ⟨_, by rw [fSub]; exact T.hRsub.h, .inr ⟨_, rfl⟩⟩, by rw [eSub]; exact T.t_sub, by rw [fSub]; exact T.t_rsub, T.sIC.h⟩
theorem oRsub (T : Tx K mg C) : OwnOpR K C .Sub T.aSub T.aRsub := ⟨T.sf, by rw [eSub]; exact T.hSub.h, by rw [fSub]; exact T.hRsub.h, T.hRsub.i, T.sCI⟩
theorem eMul : PySem.dunder (Operator.info .Mult).2 = ("__mul__" : Str) := by decide +kernel
theorem fMul : dunderR (Operator.info .Mult).2 = ("__rmul__" : Str) := by decide +kernel
theorem oMul (T : Tx K mg C) : OwnOp K C .Mult T.aMul := ⟨T.sf, by rw [eMul]; exact T.hMul.h, T.hMul.i, ⟨_, by rw [fMul]; exact T.hRmul.h, .inr ⟨_, rfl⟩⟩, by rw [eMul]; exact T.t_mul, by rw [fMul]; exact T.t_rmul, T.sIC.h⟩
theorem oRmul (T : Tx K mg C) : OwnOpR K C .Mult T.aMul T.aRmul := ⟨T.sf, by rw [eMul]; exact T.hMul.h, by rw [fMul]; exact T.hRmul.h, T.hRmul.i, T.sCI⟩
theorem eFDi : PySem.dunder (Operator.info .FloorDiv).2 = ("__floordiv__" : Str) := by decide +kernel
theorem fFDi : dunderR (Operator.info .FloorDiv).2 = ("__rfloordiv__" : Str) := by decide +kernel
theorem oFDi (T : Tx K mg C) : OwnOp K C .FloorDiv T.aFDi := ⟨T.sf, by rw [eFDi]; exact T.hFDi.h, T.hFDi.i, by rw [fFDi]; exact T.r_floordiv, by rw [eFDi]; exact T.t_floordiv, by rw [fFDi]; exact T.t_rfloordiv, T.sIC.h⟩
theorem eMod : PySem.dunder (Operator.info .Mod).2 = ("__mod__" : Str) := by decide +kernel
theorem fMod : dunderR (Operator.info .Mod).2 = ("__rmod__" : Str) := by decide +kernel
theorem oMod (T : Tx K mg C) : OwnOp K C .Mod T.aMod := ⟨T.sf, by rw [eMod]; exact T.hMod.h, T.hMod.i, by rw [fMod]; exact T.r_mod, by rw [eMod]; exact T.t_mod, by rw [fMod]; exact T.t_rmod, T.sIC.h⟩
theorem ePow : PySem.dunder (Operator.info .Pow).2 = ("__pow__" : Str) := by decide +kernel
theorem fPow : dunderR (Operator.info .Pow).2 = ("__rpow__" : Str) := by decide +kernel
theorem oPow (T : Tx K mg C) : OwnOp K C .Pow T.aPow := ⟨T.sf, by rw [ePow]; exact T.hPow.h, T.hPow.i, ⟨_, by rw [fPow]; exact T.hRp, .inl rfl⟩, by rw [ePow]; exact T.t_pow, by rw [fPow]; exact T.t_rpow, T.sIC.h⟩
end
theorem iteF_of {b : Bool} {p q : Prop} (h : b = false) (x : q) : (if b = true then p else q) := by rw [h]; exact iteF x
theorem ndF {q r : Rat} (h : q = r) : (!decide (q = r)) = false := by simp [h]
end T06

namespace T06
open PySem PySem.Spec PyProof.Rows L2 SF SQ
/-- the built-in names that the law's helpers call -/
structure Blt (mg : Str → Option Value) : Prop where
  len : mg "len" = none
  int : mg "int" = none
  abs : mg "abs" = none
  dvm : mg "divmod" = none
def Tx.blt {K : PySem.W.Frag} {mg : Str → Option Value} {C : Addr} (T : Tx K mg C) : Blt mg := ⟨T.len, T.rc.int_, T.rc.abs_, T.dvm⟩
section
variable {P : Program} {w : World} {K : PySem.W.Frag} {mg : Str → Option Value} {base : Heap}
def spCell (K : PySem.W.Frag) : Sp := fun vs H Q _ => ∃ (a : Addr) (ns : List Int) (k : Int), vs = [.ref a, .int k] ∧ SqL K H a (ns.map V.int) ∧ ns.length ≤ 63 ∧ 0 ≤ k ∧ k ≤ 63 ∧ ∀ z H', Same H H' → Q (.int z) H'
theorem ok_cell {f : Addr} {fd : FuncData} (F : Fun K "_law_cell" "_law_cell" sCell f fd) (T : Blt mg) : FnOk P w K mg base CX0 1 f fd ["_law_cells", "_law_k"] (spCell K) := by
  refine F.ok scCell (fun vs H Q E h => ?_) (fun cdv A outer s H vs Q E hr h => ?_)
  · obtain ⟨a, ns, k, rfl, _⟩ := h
    rfl
  · obtain ⟨a, ns, k, rfl, hS, hl, h0, h1, q⟩ := h
    refine ⟨_, pss_cons (ps_if (pt_cmpR op_lt (pv 1) (pe_callB call_len_seq (by rfl) T.len PySem.boot_len (pa_cons (pv 0) pa_nil)) (nomark _)) (pss_one (ps_ret (pe_callTy call_int1 (by rfl) T.int (by decide +kernel) (pa_cons (pe_ix ix_list (pv 0) (pv 1) (fun _ _ => rfl)) pa_nil)))) pss_nil)
      (pss_cons (ps_set (i := 2) scCell.nd rfl (.inl rfl) (pe_op op_add (pe_op op_add pe_int (pe_op op_mul (pe_op op_mul pe_int (pv 1)) (pv 1))) (pe_op op_mul pe_int (pv 1))))
      (pss_cons (ps_for PassesOwn.never rfl (pi_list (pe_slice sl_list (pv 0) po_none (po_some pe_int))) (pg_name (i := 3) scCell.nd rfl (.inl rfl))
        (pss_one (ps_set (i := 2) scCell.nd rfl (.inl rfl) (pe_op op_mod (pe_callTy call_int1 (by rfl) T.int (by decide +kernel) (pa_cons (pe_op op_add (pe_op op_mul (pv 2) pe_int) (pe_op op_mul (pe_callTy call_int1 (by rfl) T.int (by decide +kernel) (pa_cons (pv 3) pa_nil)) (pe_op op_add (pv 1) pe_int))) pa_nil)) pe_int))))
      (pss_one (ps_ret (pv 2))))), ?_⟩
    refine ⟨_, rfl, _, rfl, a, _, rfl, .inl hS, _, _, rfl, rfl, _, rfl, ?_⟩
    have hlen : ((ns.map V.int).length : Int) = (ns.length : Int) := by rw [List.length_map]
    refine ite2 (fun hc => ?_) (fun hc => ?_)
    · have hk : k < (ns.length : Int) := by rw [← hlen]; exact of_decide_eq_true hc
      have hj : k.toNat < ns.length := by omega
      refine ⟨_, rfl, _, rfl, a, _, k, .int ns[k.toNat], rfl, rfl, hS, at_of (j := k.toNat) (by omega) (by rw [List.getElem?_map, List.getElem?_eq_getElem hj]; rfl), .inl ⟨_, rfl, ?_⟩⟩
      exact q _ _ (Same.refl _)
    · refine ⟨_, rfl, 7, k, rfl, rfl, .inl ⟨by decide, by decide⟩, _, rfl, _, _, rfl, rfl, .inr ⟨by omega, by omega⟩, _, _, rfl, rfl, _, rfl, 3, k, rfl, rfl, .inl ⟨by decide, by decide⟩, _, _, rfl, rfl, ?_⟩
      refine ⟨_, rfl, _, rfl, a, _, rfl, hS, fun p hp => ?_⟩
      have hp' : H p = none := hp
      refine ⟨p, rfl, ⟨_, SqL.of upd_same⟩, for_list (K := K) (a := p) (xs := cutV (ns.map V.int) none (some 4)) (fun i σ H' => H' = upd H p (.lst (cutV (ns.map V.int) none (some 4))) ∧ ∃ m v, σ = [some (.ref a), some (.int k), some (.int m), v]) ⟨rfl, _, none, rfl⟩ (fun i σ H' _ ⟨e, _⟩ => by rw [e]; exact SqL.of upd_same) ?_ ?_⟩
      · rintro i y σ H' hi ⟨rfl, m, v, rfl⟩
        obtain ⟨z, rfl⟩ : ∃ z, y = V.int z := by
          have hm : y ∈ cutV (ns.map V.int) none (some 4) := List.mem_of_getElem? hi
          unfold cutV at hm
          obtain ⟨z, _, e⟩ := List.mem_map.mp (List.mem_of_mem_drop (List.mem_of_mem_take hm))
          exact ⟨z, e.symm⟩
        refine ⟨_, rfl, m, 69621, rfl, rfl, .inr ⟨by decide, by decide⟩, _, rfl, .inl ⟨z, rfl, _, rfl, _, _, rfl, rfl, z, k + 3, rfl, rfl, .inr ⟨by omega, by omega⟩, _, _, rfl, rfl, .inl ⟨_, rfl, _, _, rfl, rfl, (by show (0 : Int) < 2147483629; decide), ?_⟩⟩⟩
        exact ⟨rfl, _, _, rfl⟩
      · rintro σ H' ⟨rfl, m, v, rfl⟩
        refine ⟨_, rfl, q _ _ fun b o e => ?_⟩
        rw [upd_ne (ne_of_none e hp')]
        exact e
/-- a list of three ints: the law's source of draws -/
def SrcAt (H : Hp) (a : Addr) : Prop := ∃ x y z : Int, H a = some (.lst [.int x, .int y, .int z])
/-- all that was tracked but the thing at a is as it was -/
def But (a : Addr) (H H' : Hp) : Prop := ∀ b o, b ≠ a → H b = some o → H' b = some o
theorem But.refl (a : Addr) (H : Hp) : But a H H := fun _ _ _ e => e
theorem But.trans {a : Addr} {H H1 H2 : Hp} (x : But a H H1) (y : But a H1 H2) : But a H H2 := fun b o n e => y b o n (x b o n e)
theorem But.upd {a : Addr} {H : Hp} {o : HO} : But a H (upd H a o) := fun b u n e => by rw [upd_ne n]; exact e
theorem But.new {a p : Addr} {H H1 : Hp} {o : HO} (x : But a H H1) (h : H1 p = none) : But a H (L2.upd H1 p o) := fun b u n e => by rw [upd_ne (ne_of_none (x b u n e) h)]; exact x b u n e
theorem SrcAt.ne {H : Hp} {a p : Addr} (s : SrcAt H a) (h : H p = none) : a ≠ p := by
  obtain ⟨x, y, z, e⟩ := s
  exact ne_of_none e h

def spSource : Sp := fun vs H Q _ => ∃ c : Int, vs = [.int c] ∧ ∀ p H', H p = none → Same H H' → SrcAt H' p → Q (.ref p) H'
theorem ok_source {f : Addr} {fd : FuncData} (F : Fun K "_law_source" "_law_source" sSrc f fd) (T : Blt mg) : FnOk P w K mg base CX0 1 f fd ["_law_cell_here"] spSource := by
  refine F.ok scSrc (fun vs H Q E h => ?_) (fun cdv A outer s H vs Q E hr h => ?_)
  · obtain ⟨c, rfl, _⟩ := h
    rfl
  · obtain ⟨c, rfl, q⟩ := h
    refine ⟨_, pss_cons (ps_set (i := 1) scSrc.nd rfl (.inl rfl) (pe_ifExp (pt_cmpR op_ge (pe_callB call_abs (by rfl) T.abs (by decide +kernel) (pa_cons (pv 0) pa_nil)) (pe_op op_pow pe_int pe_int) (nomark _)) (pe_callB call_abs (by rfl) T.abs (by decide +kernel) (pa_cons (pv 0) pa_nil)) pe_int))
      (pss_one (ps_ret (pe_lst (pa_cons (pe_op op_mod (pe_callTy call_int1 (by rfl) T.int (by decide +kernel) (pa_cons (pe_op op_add (pe_op op_mul (pv 0) pe_int) pe_int) pa_nil)) pe_int) (pa_cons (pv 1) (pa_cons pe_int pa_nil)))))), ?_⟩
    have tail : ∀ g : Int, tRet (tLst (tCons (tOp (rI (fun _ j => 0 < j) fun i j => V.int (i % j)) (tCB (fun xs H Q => (∃ i, xs = [V.int i] ∧ Q (V.int i) H) ∨ ∃ k, xs = [V.bl k] ∧ Q (V.int (if k = true then 1 else 0)) H) (tCons (tOp (rI0 fun i j => V.int (i + j)) (tOp (rI CMul fun i j => V.int (i * j)) (tVar 0) (tC (V.int 48271))) (tC (V.int 977))) tNil)) (tC (V.int 2147483629))) (tCons (tVar 1) (tCons (tC (V.int 0)) tNil))))
        { nx := fun _ H' => Q .non H', rt := Q } [some (.int c), some (.int g)] H := fun g => by
      refine ⟨_, rfl, c, 48271, rfl, rfl, .inr ⟨by decide, by decide⟩, _, _, rfl, rfl, .inl ⟨_, rfl, _, _, rfl, rfl, (by show (0 : Int) < 2147483629; decide), _, rfl, (by show 3 ≤ sizeLine; decide), fun p hp => ?_⟩⟩
      have hp' : H p = none := hp
      exact q p _ hp' (fun b o e => by rw [upd_ne (ne_of_none e hp')]; exact e) ⟨_, _, _, upd_same⟩
    refine ⟨_, rfl, c, rfl, 10, 18, rfl, rfl, ⟨by decide, by decide, by decide⟩, _, _, rfl, rfl, _, rfl, ?_⟩
    refine ite2 (fun _ => ?_) (fun _ => ?_)
    · exact ⟨_, rfl, c, rfl, tail _⟩
    · exact tail 0

def spDraw : Sp := fun vs H Q _ => ∃ (a : Addr) (m : Int), vs = [.ref a, .int m] ∧ 0 < m ∧ m ≤ 100000000000000000000 ∧ SrcAt H a ∧ ∀ d H', 0 ≤ d → d < m → SrcAt H' a → But a H H' → Q (.int d) H'
theorem log_of {m : Int} (h0 : 0 < m) (h : m ≤ 100000000000000000000) : m.natAbs.log2 < 9000 := by
  have e : m.natAbs < 2 ^ 70 := by omega
  exact Nat.lt_of_lt_of_le (PySem.Flt.log2_lt_of (by decide) e) (by decide)
theorem ok_draw {f : Addr} {fd : FuncData} (F : Fun K "_law_draw" "_law_draw" sDraw f fd) (T : Blt mg) : FnOk P w K mg base CX0 1 f fd ["_law_source_here", "_law_many"] spDraw := by
  refine F.ok scDraw (fun vs H Q E h => ?_) (fun cdv A outer s H vs Q E hr h => ?_)
  · obtain ⟨a, m, rfl, _⟩ := h
    rfl
  · obtain ⟨a, m, rfl, h0, h1, ⟨x, y, z, hs⟩, q⟩ := h
    have hL := log_of h0 h1
    have pt : m.natAbs.log2 < 9000 := hL
    refine ⟨_, pss_cons (ps_asg (pe_op op_add (pe_ix ix_list (pv 0) pe_int (fun _ _ => rfl)) pe_int) (pg_sub (pv 0) pe_int set_list))
      (pss_cons (ps_set (i := 2) scDraw.nd rfl (.inl rfl) (pe_callTy call_int1 (by rfl) T.int (by decide +kernel) (pa_cons (pe_ix ix_list (pv 0) pe_int (fun _ _ => rfl)) pa_nil)))
      (pss_cons (ps_set (i := 3) scDraw.nd rfl (.inl rfl) (pe_callTy call_int1 (by rfl) T.int (by decide +kernel) (pa_cons (pe_op op_add (pe_op op_add (pe_op op_mul (pv 2) (pe_op op_add (pe_op op_mod (pe_callTy call_int1 (by rfl) T.int (by decide +kernel) (pa_cons (pv 2) pa_nil)) pe_int) pe_int)) (pe_op op_mul pe_int (pe_ix ix_list (pv 0) pe_int (fun _ _ => rfl)))) pe_int) pa_nil)))
      (pss_cons (ps_asg (pe_op op_mod (pe_callTy call_int1 (by rfl) T.int (by decide +kernel) (pa_cons (pv 3) pa_nil)) pe_int) (pg_sub (pv 0) pe_int set_list))
      (pss_cons (ps_if (pt_cmpR op_gt (pe_ix ix_list (pv 0) pe_int (fun _ _ => rfl)) pe_int (nomark _))
        (pss_cons (ps_asg (pe_callB call_divmodW (by rfl) T.dvm (by decide +kernel) (pa_cons (pe_ix ix_list (pv 0) pe_int (fun _ _ => rfl)) (pa_cons (pv 1) pa_nil))) (pg_tup rfl (pgs_cons (pg_sub (pv 0) pe_int set_list) (pgs_cons (pg_name (i := 4) scDraw.nd rfl (.inl rfl)) pgs_nil))))
          (pss_one (ps_ret (pv 4)))) pss_nil)
      (pss_one (ps_ret (pe_op op_mod (pe_callTy call_int1 (by rfl) T.int (by decide +kernel) (pa_cons (pe_op op_fdiv (pe_ix ix_list (pv 0) pe_int (fun _ _ => rfl)) pe_int) pa_nil)) (pv 1)))))))), ?_⟩
    refine ⟨_, rfl, a, _, 2, .int z, rfl, rfl, SqL.of hs, (by rfl), z, 1, rfl, rfl, _, rfl, a, _, 2, 2, rfl, rfl, hs, (by rfl), ?_⟩
    refine ⟨_, rfl, a, [.int x, .int y, .int (z + 1)], 0, .int x, rfl, rfl, SqL.of upd_same, (by rfl), .inl ⟨x, rfl, ?_⟩⟩
    have b1 : 0 ≤ x % 30011 := Int.emod_nonneg _ (by decide)
    have b2 : x % 30011 < 30011 := Int.emod_lt_of_pos _ (by decide)
    refine ⟨_, rfl, _, rfl, .inl ⟨x, rfl, x, 30011, rfl, rfl, (by show (0 : Int) < 30011; decide), _, _, rfl, rfl, x, _, rfl, rfl, .inr ⟨by omega, by omega⟩, _, rfl, a, [.int x, .int y, .int (z + 1)], 2, .int (z + 1), rfl, rfl, SqL.of upd_same, (by rfl), 65539, _, rfl, rfl, .inl ⟨by decide, by decide⟩, _, _, rfl, rfl, _, _, rfl, rfl, .inl ⟨_, rfl, ?_⟩⟩⟩
    refine ⟨_, rfl, .inl ⟨_, rfl, _, _, rfl, rfl, (by show (0 : Int) < 2147483629; decide), _, rfl, a, [.int x, .int y, .int (z + 1)], 0, 0, rfl, rfl, upd_same, (by rfl), ?_⟩⟩
    refine ⟨_, rfl, a, [.int _, .int y, .int (z + 1)], 1, .int y, rfl, rfl, SqL.of upd_same, (by rfl), _, _, rfl, rfl, _, rfl, ?_⟩
    refine ite2 (fun _ => ?_) (fun _ => ?_)
    · refine ⟨_, rfl, a, [.int _, .int y, .int (z + 1)], 1, .int y, rfl, rfl, SqL.of upd_same, (by rfl), _, rfl, y, m, rfl, ⟨h0, PyProof.noPylong_of_log2 hL⟩, fun p hp => ?_⟩
      have nap : a ≠ p := ne_of_none upd_same hp
      refine ⟨p, _, rfl, SqT.of upd_same, rfl, _, _, rfl, _, rfl, a, [.int _, .int y, .int (z + 1)], 1, 1, rfl, rfl, (by rw [upd_ne nap]; exact upd_same), (by rfl), _, _, rfl, rfl, ?_⟩
      refine ⟨_, rfl, q _ _ (Int.emod_nonneg _ (by omega)) (Int.emod_lt_of_pos _ h0) ⟨_, _, _, upd_same⟩ ?_⟩
      exact (((But.upd (a := a)).trans But.upd).new hp).trans But.upd
    · refine ⟨_, rfl, a, [.int _, .int y, .int (z + 1)], 0, .int _, rfl, rfl, SqL.of upd_same, (by rfl), _, _, rfl, rfl, ⟨by decide, by decide⟩, .inl ⟨_, rfl, _, rfl, _, _, rfl, rfl, h0, ?_⟩⟩
      exact q _ _ (Int.emod_nonneg _ (by omega)) (Int.emod_lt_of_pos _ h0) ⟨_, _, _, upd_same⟩ ((But.upd (a := a)).trans But.upd)
end
section
variable {P : Program} {w : World} {K : PySem.W.Frag} {mg : Str → Option Value} {base : Heap}
def Big : Int := 10000000000000000000000000000000000000000
def spWhole : Sp := fun vs H Q _ => ∃ a : Addr, vs = [.ref a] ∧ SrcAt H a ∧ ∀ n H', -Big < n → n < Big → SrcAt H' a → But a H H' → Q (.int n) H'
theorem ok_whole {f fD : Addr} {fd fdD : FuncData} (F : Fun K "_law_whole" "_law_whole" sWho f fd) (FD : Fun K "_law_draw" "_law_draw" sDraw fD fdD) (bD : Binds K fdD ["_law_source_here", "_law_many"] []) (gD : mg "_law_draw" = some (.ref fD)) (T : Blt mg) :
    FnOk P w K mg base CX0 2 f fd ["_law_source_here"] spWhole := by
  have GD : FnOk P w K mg base CX0 1 fD fdD ["_law_source_here", "_law_many"] spDraw := ok_draw FD T
  refine F.ok scWho (fun vs H Q E h => ?_) (fun cdv A outer s H vs Q E hr h => ?_)
  · obtain ⟨a, rfl, _⟩ := h
    rfl
  · obtain ⟨a, rfl, hs, q⟩ := h
    refine ⟨_, (pss_cons (ps_set (i := 1) scWho.nd rfl (.inl rfl) (pe_call GD hr (by rfl) gD FD.kp bD .nil pass0 (pa_cons (pv 0) (pa_cons pe_int pa_nil))))
      (pss_cons (ps_if (pt_cmpR op_lt (pv 1) pe_int (nomark _)) (pss_one (ps_ret (pe_op op_sub (pe_call GD hr (by rfl) gD FD.kp bD .nil pass0 (pa_cons (pv 0) (pa_cons pe_int pa_nil))) pe_int))) pss_nil)
      (pss_cons (ps_if (pt_cmpR op_lt (pv 1) pe_int (nomark _)) (pss_one (ps_ret (pe_op op_sub (pe_call GD hr (by rfl) gD FD.kp bD .nil pass0 (pa_cons (pv 0) (pa_cons pe_int pa_nil))) pe_int))) pss_nil)
      (pss_cons (ps_set (i := 2) scWho.nd rfl (.inl rfl) (pe_op op_sub pe_int (pe_op op_mul pe_int (pe_call GD hr (by rfl) gD FD.kp bD .nil pass0 (pa_cons (pv 0) (pa_cons pe_int pa_nil))))))
      (pss_cons (ps_if (pt_cmpR op_eq (pv 1) pe_int (nomark _)) (pss_one (ps_ret (pe_op op_mul (pv 2) (pe_op op_add (pe_ix ix_list (pe_lst (pa_cons (pe_op op_pow pe_int pe_int) (pa_cons (pe_op op_pow pe_int pe_int) (pa_cons (pe_op op_pow pe_int pe_int) (pa_cons (pe_op op_pow pe_int pe_int) pa_nil))))) (pe_call GD hr (by rfl) gD FD.kp bD .nil pass0 (pa_cons (pv 0) (pa_cons pe_int pa_nil))) (fun _ _ => rfl)) (pe_call GD hr (by rfl) gD FD.kp bD .nil pass0 (pa_cons (pv 0) (pa_cons pe_int pa_nil))))))) pss_nil)
      (pss_cons (ps_if (pt_cmpR op_eq (pv 1) pe_int (nomark _)) (pss_one (ps_ret (pe_op op_mul (pv 2) (pe_op op_sub (pe_op op_sub (pe_op op_pow pe_int pe_int) pe_int) (pe_call GD hr (by rfl) gD FD.kp bD .nil pass0 (pa_cons (pv 0) (pa_cons pe_int pa_nil))))))) pss_nil)
      (pss_cons (ps_set (i := 3) scWho.nd rfl (.inl rfl) (pe_lst (pa_cons (pe_call GD hr (by rfl) gD FD.kp bD .nil pass0 (pa_cons (pv 0) (pa_cons (pe_op op_pow pe_int pe_int) pa_nil))) (pa_cons (pe_call GD hr (by rfl) gD FD.kp bD .nil pass0 (pa_cons (pv 0) (pa_cons (pe_op op_pow pe_int pe_int) pa_nil))) (pa_cons (pe_call GD hr (by rfl) gD FD.kp bD .nil pass0 (pa_cons (pv 0) (pa_cons (pe_op op_pow pe_int pe_int) pa_nil))) pa_nil)))))
      (pss_one (ps_ret (pe_op op_mul (pv 2) (pe_op op_add (pe_op op_add (pe_op op_mul (pe_ix ix_list (pv 3) pe_int (fun _ _ => rfl)) (pe_op op_pow pe_int pe_int)) (pe_op op_mul (pe_ix ix_list (pv 3) pe_int (fun _ _ => rfl)) (pe_op op_pow pe_int pe_int))) (pe_ix ix_list (pv 3) pe_int (fun _ _ => rfl))))))))))))), ?_⟩
    have D9 : (9 : Int) ≤ 100000000000000000000 := by decide
    refine ⟨_, rfl, a, 9, rfl, (by decide), (by decide), hs, fun d H1 d0 d1 s1 k1 => ?_⟩
    refine ⟨_, rfl, _, _, rfl, rfl, _, rfl, ?_⟩
    refine ite2 (fun _ => ?_) (fun _ => ?_)
    · refine ⟨_, rfl, a, 25, rfl, (by decide), (by decide), s1, fun e H2 e0 e1 s2 k2 => ⟨_, _, rfl, rfl, q _ _ (by unfold Big; omega) (by unfold Big; omega) s2 (k1.trans k2)⟩⟩
    refine ⟨_, rfl, _, _, rfl, rfl, _, rfl, ?_⟩
    refine ite2 (fun _ => ?_) (fun _ => ?_)
    · refine ⟨_, rfl, a, 2001, rfl, (by decide), (by decide), s1, fun e H2 e0 e1 s2 k2 => ⟨_, _, rfl, rfl, q _ _ (by unfold Big; omega) (by unfold Big; omega) s2 (k1.trans k2)⟩⟩
    refine ⟨_, rfl, a, 2, rfl, (by decide), (by decide), s1, fun e H2 e0 e1 s2 k2 => ⟨2, e, rfl, rfl, .inl ⟨by decide, by decide⟩, 1, _, rfl, rfl, ?_⟩⟩
    have he : e = 0 ∨ e = 1 := by omega
    refine ⟨_, rfl, rfl, _, rfl, ?_⟩
    refine ite2 (fun _ => ?_) (fun _ => ?_)
    · refine ⟨_, rfl, 10, 6, rfl, rfl, ⟨by decide, by decide, by decide⟩, 10, 12, rfl, rfl, ⟨by decide, by decide, by decide⟩, 10, 20, rfl, rfl, ⟨by decide, by decide, by decide⟩, 10, 39, rfl, rfl, ⟨by decide, by decide, by decide⟩, (by show 4 ≤ sizeLine; decide), fun l hl => ?_⟩
      have s3 : SrcAt (upd H2 l (.lst [.int (10 ^ 6), .int (10 ^ 12), .int (10 ^ 20), .int (10 ^ 39)])) a := by
        obtain ⟨x, y, z, es⟩ := s2
        exact ⟨x, y, z, by rw [upd_ne (ne_of_none es hl)]; exact es⟩
      have nla : l ≠ a := (s2.ne hl).symm
      refine ⟨_, rfl, a, 4, rfl, (by decide), (by decide), s3, fun d2 H3 f0 f1 s4 k4 => ?_⟩
      have hl3 := k4 l _ nla upd_same
      obtain ⟨v, hv, v0, v1⟩ : ∃ v : Int, atI [V.int (10 ^ 6), V.int (10 ^ 12), V.int (10 ^ 20), V.int (10 ^ 39)] d2 = some (.int v) ∧ 0 ≤ v ∧ v ≤ 10 ^ 39 := by
        have : d2 = 0 ∨ d2 = 1 ∨ d2 = 2 ∨ d2 = 3 := by omega
        rcases this with rfl | rfl | rfl | rfl
        · exact ⟨_, rfl, by decide, by decide⟩
        · exact ⟨_, rfl, by decide, by decide⟩
        · exact ⟨_, rfl, by decide, by decide⟩
        · exact ⟨_, rfl, by decide, by decide⟩
      refine ⟨l, _, d2, _, rfl, rfl, SqL.of hl3, hv, _, rfl, a, 1000, rfl, (by decide), (by decide), s4, fun d3 H4 g0 g1 s5 k5 => ⟨_, _, rfl, rfl, _, _, rfl, rfl, .inl ⟨by omega, by omega⟩, ?_⟩⟩
      refine q _ _ ?_ ?_ s5 (((k1.trans k2).new hl).trans (k4.trans k5))
      · unfold Big
        rcases he with rfl | rfl <;> omega
      · unfold Big
        rcases he with rfl | rfl <;> omega
    refine ⟨_, rfl, rfl, _, rfl, ?_⟩
    refine ite2 (fun _ => ?_) (fun _ => ?_)
    · refine ⟨_, rfl, 10, 40, rfl, rfl, ⟨by decide, by decide, by decide⟩, _, _, rfl, rfl, _, rfl, a, 1000, rfl, (by decide), (by decide), s2, fun d3 H4 g0 g1 s5 k5 => ⟨_, _, rfl, rfl, _, _, rfl, rfl, .inl ⟨by omega, by omega⟩, ?_⟩⟩
      have e40 : (10 : Int) ^ (40 : Int).toNat = 10000000000000000000000000000000000000000 := by decide
      refine q _ _ ?_ ?_ s5 ((k1.trans k2).trans k5)
      · show -Big < (1 - 2 * e) * ((10 : Int) ^ (40 : Int).toNat - 7 - d3)
        rw [e40]
        unfold Big
        rcases he with rfl | rfl <;> omega
      · show (1 - 2 * e) * ((10 : Int) ^ (40 : Int).toNat - 7 - d3) < Big
        rw [e40]
        unfold Big
        rcases he with rfl | rfl <;> omega
    have e9 : (10 : Int) ^ (9 : Int).toNat = 1000000000 := by decide
    have e30 : (10 : Int) ^ (30 : Int).toNat = 1000000000000000000000000000000 := by decide
    have e15 : (10 : Int) ^ (15 : Int).toNat = 1000000000000000 := by decide
    refine ⟨_, rfl, 10, 9, rfl, rfl, ⟨by decide, by decide, by decide⟩, a, _, rfl, (by decide), (by decide), s2, fun x H4 x0 x1 s4 k4 => ?_⟩
    refine ⟨_, rfl, 10, 9, rfl, rfl, ⟨by decide, by decide, by decide⟩, a, _, rfl, (by decide), (by decide), s4, fun y H5 y0 y1 s5 k5 => ?_⟩
    refine ⟨_, rfl, 10, 9, rfl, rfl, ⟨by decide, by decide, by decide⟩, a, _, rfl, (by decide), (by decide), s5, fun z H6 z0 z1 s6 k6 => ⟨(by show 3 ≤ sizeLine; decide), fun l hl => ?_⟩⟩
    rw [e9] at x1 y1 z1
    refine ⟨_, rfl, _, rfl, l, [.int x, .int y, .int z], 0, .int x, rfl, rfl, SqL.of upd_same, (by rfl), 10, 30, rfl, rfl, ⟨by decide, by decide, by decide⟩, _, _, rfl, rfl, .inl ⟨by omega, by omega⟩,
      _, rfl, l, [.int x, .int y, .int z], 1, .int y, rfl, rfl, SqL.of upd_same, (by rfl), 10, 15, rfl, rfl, ⟨by decide, by decide, by decide⟩, _, _, rfl, rfl, .inl ⟨by omega, by omega⟩, _, _, rfl, rfl,
      _, rfl, l, [.int x, .int y, .int z], 2, .int z, rfl, rfl, SqL.of upd_same, (by rfl), _, _, rfl, rfl, _, _, rfl, rfl, .inl ⟨by omega, by omega⟩, ?_⟩
    refine q _ _ ?_ ?_ ?_ (((((k1.trans k2).trans k4).trans k5).trans k6).new hl)
    · show -Big < (1 - 2 * e) * (x * (10 : Int) ^ (30 : Int).toNat + y * (10 : Int) ^ (15 : Int).toNat + z)
      rw [e30, e15]
      unfold Big
      rcases he with rfl | rfl <;> omega
    · show (1 - 2 * e) * (x * (10 : Int) ^ (30 : Int).toNat + y * (10 : Int) ^ (15 : Int).toNat + z) < Big
      rw [e30, e15]
      unfold Big
      rcases he with rfl | rfl <;> omega
    · obtain ⟨u1, u2, u3, es⟩ := s6
      exact ⟨u1, u2, u3, by rw [upd_ne (ne_of_none es hl)]; exact es⟩
end

/-! ### a fraction as a pair -/
section
variable {P : Program} {w : World} {K : PySem.W.Frag} {mg : Str → Option Value} {base : Heap} {C : Addr}
theorem RQ.but {H H' : Hp} {a p : Addr} {n : Nat} {q : Rat} (r : RQ C H p n q) (h : SrcAt H a) (k : But a H H') : RQ C H' p n q := by
  obtain ⟨⟨dx, e⟩, s⟩ := r
  obtain ⟨x, y, z, es⟩ := h
  exact ⟨⟨dx, k p _ (fun z => by rw [z, es] at e; cases e) e⟩, s⟩
theorem SrcAt.same {H H' : Hp} {a : Addr} (h : SrcAt H a) (s : Same H H') : SrcAt H' a := let ⟨x, y, z, e⟩ := h; ⟨x, y, z, s _ _ e⟩
theorem But.same {H H1 H2 : Hp} {a : Addr} (k : But a H H1) (s : Same H1 H2) : But a H H2 := fun b o n e => s b o (k b o n e)
theorem tup_but {H H' : Hp} {a p : Addr} {xs : List V} (e : H p = some (.tup xs)) (h : SrcAt H a) (k : But a H H') : H' p = some (.tup xs) := by
  obtain ⟨x, y, z, es⟩ := h
  exact k p _ (fun z => by rw [z, es] at e; cases e) e
theorem lst_but {H H' : Hp} {a p : Addr} {o : HO} (e : H p = some o) (n : p ≠ a) (k : But a H H') : H' p = some o := k p _ n e
def PN : Nat := 133
theorem big_pn {n : Int} (h0 : -Big < n) (h1 : n < Big) : n.natAbs < 2 ^ PN := by
  have : n.natAbs < 10000000000000000000000000000000000000000 := by unfold Big at h0 h1; omega
  exact Nat.lt_of_lt_of_le this (by decide)
end
end T06

/-! The class's defs where 0 divides. -/
namespace T06
open PySem PySem.Spec PyProof.Rows L2 SF SQ
section
variable {P : Program} {w : World} {K : PySem.W.Frag} {mg : Str → Option Value} {base : Heap} {C D : Addr}
theorem zq_ini (T : Tx K mg C) (Z : DZ K mg D) : FnOk P w K mg base (L2.CX P w) 2 T.aIni T.dIni ["self", "top", "bottom"] (spZI D) := by
  have GW : FnOk P w K mg base CX0 1 T.aIsW T.dIsW ["value"] (spIsW C) := ok_isW T
  refine T.FIni.ok scIni (fun vs H Q E h => ?_) (fun cdv A outer s H vs Q E hr h => ?_)
  · obtain ⟨p, t, rfl, _⟩ := h
    rfl
  · obtain ⟨p, t, rfl, z⟩ := h
    refine ⟨_, (pss_cons (ps_if (pt_not (pt_val (pe_call GW hr (by rfl) T.gIsW T.FIsW.kp T.bIsW .nil pass0 (pa_cons (pv 1) pa_nil)))) (pss_one ps_never) pss_nil)
      (pss_cons (ps_if (pt_not (pt_val (pe_call GW hr (by rfl) T.gIsW T.FIsW.kp T.bIsW .nil pass0 (pa_cons (pv 2) pa_nil)))) (pss_one ps_never) pss_nil)
      (pss_cons (ps_if (pt_cmpR op_eq (pv 2) pe_int (nomark _)) (pss_one (ps_dz Z rfl (takes_of (E := E) rfl rfl rfl rfl) (by rfl))) pss_nil) pss_never))), ?_⟩
    refine ⟨_, rfl, _, rfl, .inl ⟨_, .int t, _, rfl, iteF ?_⟩⟩
    refine ⟨_, rfl, _, rfl, .inl ⟨_, .int 0, _, rfl, iteF ?_⟩⟩
    exact ⟨_, rfl, rfl, _, rfl, iteT (z H (Same.refl H))⟩
theorem zq_inv (T : Tx K mg C) (Z : DZ K mg D) : FnOk P w K mg base (L2.CX P w) 4 T.aInv T.dInv ["ratio"] (spZ1 C D) := by
  have GI : FnOk P w K mg base (L2.CX P w) 2 T.aIni T.dIni ["self", "top", "bottom"] (spZI D) := zq_ini T Z
  refine SQ.Fun.okX T.FInv scInv (fun vs H Q E h => ?_) (fun cdv A outer s H vs Q E hr h => ?_)
  · obtain ⟨a, n, rfl, _⟩ := h
    rfl
  · obtain ⟨a, n, rfl, ra, hl, z⟩ := h
    have hr2 := hr.mono (show 2 ≤ 3 by decide)
    let L : List Sl := [.fr n 0]
    refine ⟨_, (pss_one (ps_ret (pz_make (E := E) (D := D) (G := SQ.Env C L) T.M GI (passes_call (takes_of (E := E) rfl rfl rfl rfl) (fun _ _ _ _ h => h)) T.b2 hr (by rfl) T.rc.mgC Env.gs
      (pI_bot T.rc.cl (DBot T) T.PBot hr2 (vq L 0 (pv 0) rfl)) (pI_top T.rc.cl (DTop T) T.PTop hr2 (vq L 0 (pv 0) rfl))))), ?_⟩
    exact qz_ret ⟨⟨a, rfl, ra⟩, trivial⟩ ⟨trivial, trivial⟩ z
theorem zq_flo (T : Tx K mg C) (Z : DZ K mg D) : FnOk P w K mg base (L2.CX P w) 5 T.aFlo T.dFlo ["left", "right"] (spZ2 C D) := by
  have GP : FnOk P w K mg base CX0 4 T.aProd T.dProd ["left", "right"] (sp2 C yes2 (fun q r => q * r) gM) := ok_prod T
  have GV : FnOk P w K mg base (L2.CX P w) 4 T.aInv T.dInv ["ratio"] (spZ1 C D) := zq_inv T Z
  refine SQ.Fun.okX T.FFlo scFlo (fun vs H Q E h => ?_) (fun cdv A outer s H vs Q E hr h => ?_)
  · obtain ⟨a, b, n, m, q, rfl, _⟩ := h
    rfl
  · obtain ⟨a, b, n, m, x, rfl, ra, rb, hn, hm, z⟩ := h
    let L : List Sl := [.fr n x, .fr m 0]
    refine ⟨_, (pss_cons (ps_set (i := 2) scFlo.nd rfl (.inl rfl) (pz_call2 (E := E) (D := D) (G := SQ.Env C L) GP hr (by rfl) T.gProd T.FProd.kp T.bProd Env.gs (vq L 0 (pv 0) rfl) (pz_callZ1 GV (passes_call (takes_of (E := E) rfl rfl rfl rfl) (fun _ _ _ _ h => h)) hr (by rfl) T.gInv T.FInv.kp T.bInv (vq L 1 (pv 1) rfl)))) pss_never), ?_⟩
    exact ⟨⟨⟨a, rfl, ra⟩, ⟨b, rfl, rb⟩, trivial⟩, ⟨trivial, trivial, hm⟩, z⟩
theorem zq_rem (T : Tx K mg C) (Z : DZ K mg D) : FnOk P w K mg base (L2.CX P w) 6 T.aRem T.dRem ["left", "right"] (spZ2 C D) := by
  have GS' : FnOk P w K mg base CX0 4 T.aSum T.dSum ["left", "right"] (sp2 C yes2 (fun q r => q + r) gA) := ok_sum T
  have GP : FnOk P w K mg base CX0 4 T.aProd T.dProd ["left", "right"] (sp2 C yes2 (fun q r => q * r) gM) := ok_prod T
  have GF : FnOk P w K mg base (L2.CX P w) 5 T.aFlo T.dFlo ["left", "right"] (spZ2 C D) := zq_flo T Z
  refine SQ.Fun.okX T.FRem scRem (fun vs H Q E h => ?_) (fun cdv A outer s H vs Q E hr h => ?_)
  · obtain ⟨a, b, n, m, q, rfl, _⟩ := h
    rfl
  · obtain ⟨a, b, n, m, x, rfl, ra, rb, hn, hm, z⟩ := h
    have hr4 := hr.mono (show 4 ≤ 5 by decide)
    let L : List Sl := [.fr n x, .fr m 0]
    refine ⟨_, (pss_one (ps_ret (pz_call2 (E := E) (D := D) (G := SQ.Env C L) GS' hr4 (by rfl) T.gSum T.FSum.kp T.bSum Env.gs (vq L 0 (pv 0) rfl)
      (pz_un (pz_call2 (k := true) GP hr4 (by rfl) T.gProd T.FProd.kp T.bProd Env.gs (vq L 1 (pv 1) rfl) (pz_callZ2 GF (passes_call (takes_of (E := E) rfl rfl rfl rfl) (fun _ _ _ _ h => h)) hr (by rfl) T.gFlo T.FFlo.kp T.bFlo Env.gs (vq L 0 (pv 0) rfl) (vq L 1 (pv 1) rfl))))))), ?_⟩
    exact qz_ret ⟨⟨a, rfl, ra⟩, ⟨b, rfl, rb⟩, trivial⟩ ⟨trivial, trivial, trivial, trivial, hn, hm⟩ z

theorem zq_FDi (T : Tx K mg C) (Z : DZ K mg D) : FnOk P w K mg base (L2.CX P w) 6 T.aFDi T.dFDi ["self", "other"] (spZM C D) := by
  have GN : FnOk P w K mg base CX0 2 T.aIsN T.dIsN ["value"] (spIsN C) := ok_isN T
  have GA : FnOk P w K mg base CX0 4 T.aAs T.dAs ["number"] (spAs C) := ok_as T
  have GO : FnOk P w K mg base (L2.CX P w) 5 T.aFlo T.dFlo ["left", "right"] (spZ2 C D) := zq_flo T Z
  refine SQ.Fun.okX T.FFDi scFDi (fun vs H Q E h => ?_) (fun cdv A outer s H vs Q E hr h => ?_)
  · obtain ⟨a, k, v, n, m, q, rfl, _⟩ := h
    rfl
  · obtain ⟨a, k, v, n, m, x, rfl, ra, nv, hn, hm, z⟩ := h
    have hr2 := hr.mono (show 2 ≤ 5 by decide)
    have hr4 := hr.mono (show 4 ≤ 5 by decide)
    let L : List Sl := [.fr n x, .nv k m 0]
    refine ⟨_, (pss_cons (ps_if (pb_not (pb_test (pb_num (G := SQ.Env C L) GN hr2 (by rfl) T.gIsN T.FIsN.kp T.bIsN (vnv L 1 (pv 1) rfl)))) (pss_one ps_never) pss_nil)
      (pss_one (ps_ret (pz_callZ2 (E := E) (D := D) (G := SQ.Env C L) GO (passes_call (takes_of (E := E) rfl rfl rfl rfl) (fun _ _ _ _ h => h)) hr (by rfl) T.gFlo T.FFlo.kp T.bFlo Env.gs (vq L 0 (pv 0) rfl) (pq_callA GA hr4 (by rfl) T.gAs T.FAs.kp T.bAs (vnv L 1 (pv 1) rfl)))))), ?_⟩
    exact ⟨⟨⟨a, rfl, ra⟩, ⟨v, rfl, nv⟩, trivial⟩, trivial, fun H1 S1 => iteF ⟨⟨⟨a, rfl, ra.same S1⟩, ⟨v, rfl, nv.same S1⟩, trivial⟩, ⟨trivial, ⟨trivial, hm⟩, hn, hm⟩, fun H2 S2 => z H2 (S1.trans S2)⟩⟩

theorem zq_Mod (T : Tx K mg C) (Z : DZ K mg D) : FnOk P w K mg base (L2.CX P w) 7 T.aMod T.dMod ["self", "other"] (spZM C D) := by
  have GN : FnOk P w K mg base CX0 2 T.aIsN T.dIsN ["value"] (spIsN C) := ok_isN T
  have GA : FnOk P w K mg base CX0 4 T.aAs T.dAs ["number"] (spAs C) := ok_as T
  have GO : FnOk P w K mg base (L2.CX P w) 6 T.aRem T.dRem ["left", "right"] (spZ2 C D) := zq_rem T Z
  refine SQ.Fun.okX T.FMod scMod (fun vs H Q E h => ?_) (fun cdv A outer s H vs Q E hr h => ?_)
  · obtain ⟨a, k, v, n, m, q, rfl, _⟩ := h
    rfl
  · obtain ⟨a, k, v, n, m, x, rfl, ra, nv, hn, hm, z⟩ := h
    have hr2 := hr.mono (show 2 ≤ 6 by decide)
    have hr4 := hr.mono (show 4 ≤ 6 by decide)
    let L : List Sl := [.fr n x, .nv k m 0]
    refine ⟨_, (pss_cons (ps_if (pb_not (pb_test (pb_num (G := SQ.Env C L) GN hr2 (by rfl) T.gIsN T.FIsN.kp T.bIsN (vnv L 1 (pv 1) rfl)))) (pss_one ps_never) pss_nil)
      (pss_one (ps_ret (pz_callZ2 (E := E) (D := D) (G := SQ.Env C L) GO (passes_call (takes_of (E := E) rfl rfl rfl rfl) (fun _ _ _ _ h => h)) hr (by rfl) T.gRem T.FRem.kp T.bRem Env.gs (vq L 0 (pv 0) rfl) (pq_callA GA hr4 (by rfl) T.gAs T.FAs.kp T.bAs (vnv L 1 (pv 1) rfl)))))), ?_⟩
    exact ⟨⟨⟨a, rfl, ra⟩, ⟨v, rfl, nv⟩, trivial⟩, trivial, fun H1 S1 => iteF ⟨⟨⟨a, rfl, ra.same S1⟩, ⟨v, rfl, nv.same S1⟩, trivial⟩, ⟨trivial, ⟨trivial, hm⟩, hn, hm⟩, fun H2 S2 => z H2 (S1.trans S2)⟩⟩

theorem zq_RFDi (T : Tx K mg C) (Z : DZ K mg D) : FnOk P w K mg base (L2.CX P w) 6 T.aRFDi T.dRFDi ["self", "other"] (spZR C D) := by
  have GN : FnOk P w K mg base CX0 2 T.aIsN T.dIsN ["value"] (spIsN C) := ok_isN T
  have GA : FnOk P w K mg base CX0 4 T.aAs T.dAs ["number"] (spAs C) := ok_as T
  have GO : FnOk P w K mg base (L2.CX P w) 5 T.aFlo T.dFlo ["left", "right"] (spZ2 C D) := zq_flo T Z
  refine SQ.Fun.okX T.FRFDi scRFDi (fun vs H Q E h => ?_) (fun cdv A outer s H vs Q E hr h => ?_)
  · obtain ⟨a, k, v, n, m, q, rfl, _⟩ := h
    rfl
  · obtain ⟨a, k, v, n, m, x, rfl, ra, nv, hn, hm, z⟩ := h
    have hr2 := hr.mono (show 2 ≤ 5 by decide)
    have hr4 := hr.mono (show 4 ≤ 5 by decide)
    let L : List Sl := [.fr n 0, .nv k m x]
    refine ⟨_, (pss_cons (ps_if (pb_not (pb_test (pb_num (G := SQ.Env C L) GN hr2 (by rfl) T.gIsN T.FIsN.kp T.bIsN (vnv L 1 (pv 1) rfl)))) (pss_one ps_never) pss_nil)
      (pss_one (ps_ret (pz_callZ2 (E := E) (D := D) (G := SQ.Env C L) GO (passes_call (takes_of (E := E) rfl rfl rfl rfl) (fun _ _ _ _ h => h)) hr (by rfl) T.gFlo T.FFlo.kp T.bFlo Env.gs (pq_callA GA hr4 (by rfl) T.gAs T.FAs.kp T.bAs (vnv L 1 (pv 1) rfl)) (vq L 0 (pv 0) rfl))))), ?_⟩
    exact ⟨⟨⟨a, rfl, ra⟩, ⟨v, rfl, nv⟩, trivial⟩, trivial, fun H1 S1 => iteF ⟨⟨⟨a, rfl, ra.same S1⟩, ⟨v, rfl, nv.same S1⟩, trivial⟩, ⟨⟨trivial, hm⟩, trivial, hm, hn⟩, fun H2 S2 => z H2 (S1.trans S2)⟩⟩

theorem zq_RMod (T : Tx K mg C) (Z : DZ K mg D) : FnOk P w K mg base (L2.CX P w) 7 T.aRMod T.dRMod ["self", "other"] (spZR C D) := by
  have GN : FnOk P w K mg base CX0 2 T.aIsN T.dIsN ["value"] (spIsN C) := ok_isN T
  have GA : FnOk P w K mg base CX0 4 T.aAs T.dAs ["number"] (spAs C) := ok_as T
  have GO : FnOk P w K mg base (L2.CX P w) 6 T.aRem T.dRem ["left", "right"] (spZ2 C D) := zq_rem T Z
  refine SQ.Fun.okX T.FRMod scRMod (fun vs H Q E h => ?_) (fun cdv A outer s H vs Q E hr h => ?_)
  · obtain ⟨a, k, v, n, m, q, rfl, _⟩ := h
    rfl
  · obtain ⟨a, k, v, n, m, x, rfl, ra, nv, hn, hm, z⟩ := h
    have hr2 := hr.mono (show 2 ≤ 6 by decide)
    have hr4 := hr.mono (show 4 ≤ 6 by decide)
    let L : List Sl := [.fr n 0, .nv k m x]
    refine ⟨_, (pss_cons (ps_if (pb_not (pb_test (pb_num (G := SQ.Env C L) GN hr2 (by rfl) T.gIsN T.FIsN.kp T.bIsN (vnv L 1 (pv 1) rfl)))) (pss_one ps_never) pss_nil)
      (pss_one (ps_ret (pz_callZ2 (E := E) (D := D) (G := SQ.Env C L) GO (passes_call (takes_of (E := E) rfl rfl rfl rfl) (fun _ _ _ _ h => h)) hr (by rfl) T.gRem T.FRem.kp T.bRem Env.gs (pq_callA GA hr4 (by rfl) T.gAs T.FAs.kp T.bAs (vnv L 1 (pv 1) rfl)) (vq L 0 (pv 0) rfl))))), ?_⟩
    exact ⟨⟨⟨a, rfl, ra⟩, ⟨v, rfl, nv⟩, trivial⟩, trivial, fun H1 S1 => iteF ⟨⟨⟨a, rfl, ra.same S1⟩, ⟨v, rfl, nv.same S1⟩, trivial⟩, ⟨⟨trivial, hm⟩, trivial, hm, hn⟩, fun H2 S2 => z H2 (S1.trans S2)⟩⟩

theorem zq_Over (T : Tx K mg C) (Z : DZ K mg D) : FnOk P w K mg base (L2.CX P w) 5 T.aOver T.dOver ["self", "other"] (spZM C D) := by
  have GN : FnOk P w K mg base CX0 2 T.aIsN T.dIsN ["value"] (spIsN C) := ok_isN T
  have GA : FnOk P w K mg base CX0 4 T.aAs T.dAs ["number"] (spAs C) := ok_as T
  have GP : FnOk P w K mg base CX0 4 T.aProd T.dProd ["left", "right"] (sp2 C yes2 (fun q r => q * r) gM) := ok_prod T
  have GV : FnOk P w K mg base (L2.CX P w) 4 T.aInv T.dInv ["ratio"] (spZ1 C D) := zq_inv T Z
  refine SQ.Fun.okX T.FOver scOver (fun vs H Q E h => ?_) (fun cdv A outer s H vs Q E hr h => ?_)
  · obtain ⟨a, k, v, n, m, q, rfl, _⟩ := h
    rfl
  · obtain ⟨a, k, v, n, m, x, rfl, ra, nv, hn, hm, z⟩ := h
    have hr2 := hr.mono (show 2 ≤ 4 by decide)
    let L : List Sl := [.fr n x, .nv k m 0]
    refine ⟨_, (pss_cons (ps_if (pb_not (pb_test (pb_num (G := SQ.Env C L) GN hr2 (by rfl) T.gIsN T.FIsN.kp T.bIsN (vnv L 1 (pv 1) rfl)))) (pss_one ps_never) pss_nil)
      (pss_one (ps_ret (pz_call2 (E := E) (D := D) (G := SQ.Env C L) GP hr (by rfl) T.gProd T.FProd.kp T.bProd Env.gs (vq L 0 (pv 0) rfl) (pz_callZ1 GV (passes_call (takes_of (E := E) rfl rfl rfl rfl) (fun _ _ _ _ h => h)) hr (by rfl) T.gInv T.FInv.kp T.bInv (pq_callA GA hr (by rfl) T.gAs T.FAs.kp T.bAs (vnv L 1 (pv 1) rfl))))))), ?_⟩
    exact ⟨⟨⟨a, rfl, ra⟩, ⟨v, rfl, nv⟩, trivial⟩, trivial, fun H1 S1 => iteF ⟨⟨⟨a, rfl, ra.same S1⟩, ⟨v, rfl, nv.same S1⟩, trivial⟩, ⟨trivial, ⟨trivial, hm⟩, hm⟩, fun H2 S2 => z H2 (S1.trans S2)⟩⟩
theorem zq_Power (T : Tx K mg C) (Z : DZ K mg D) : FnOk P w K mg base (L2.CX P w) 5 T.aPower T.dPower ["self", "exponent"] (spZP C D) := by
  have GW : FnOk P w K mg base CX0 4 T.aIsW T.dIsW ["value"] (spIsW C) := (ok_isW T).mono (by decide)
  have GV : FnOk P w K mg base (L2.CX P w) 4 T.aInv T.dInv ["ratio"] (spZ1 C D) := zq_inv T Z
  refine SQ.Fun.okX T.FPower scPower (fun vs H Q E h => ?_) (fun cdv A outer s H vs Q E hr h => ?_)
  · obtain ⟨a, n, e, rfl, _⟩ := h
    rfl
  · obtain ⟨a, n, e, rfl, ra, e0, e1, hn, z⟩ := h
    let L0 : List Sl := [.fr n 0, .i e, .any, .any]
    refine ⟨_, (pss_cons (ps_if (PW.pt (pw_or (pt_not (pt_val (pe_call GW hr (by rfl) T.gIsW T.FIsW.kp T.bIsW .nil pass0 (pa_cons (pv 1) pa_nil)))) (pw_or (pt_cmpR op_lt (pv 1) (pe_un un_neg (pe_glob (v := .int 20) (by rfl) T.mp ⟨_, rfl⟩)) (nomark _)) (pw_or1 (pt_cmpR op_gt (pv 1) (pe_glob (v := .int 20) (by rfl) T.mp ⟨_, rfl⟩) (nomark _)))))) (pss_one ps_never) pss_nil)
      (pss_cons (ps_set (i := 2) scPower.nd rfl (.inl rfl) (pv 0))
      (pss_cons (ps_if (pt_cmpR op_lt (pv 1) pe_int (nomark _)) (pss_one (ps_set (i := 2) scPower.nd rfl (.inl rfl) (pz_callZ1 (E := E) (D := D) (G := SQ.Env C L0) GV (passes_call (takes_of (E := E) rfl rfl rfl rfl) (fun _ _ _ _ h => h)) hr (by rfl) T.gInv T.FInv.kp T.bInv (vq L0 0 (pv 0) rfl)))) pss_nil) pss_never))), ?_⟩
    refine ⟨_, rfl, _, rfl, .inl ⟨_, .int e, _, rfl, ?_⟩⟩
    refine iteF ⟨_, rfl, _, rfl, _, _, rfl, rfl, _, rfl, ?_⟩
    rw [decide_eq_false (show ¬ e < -20 by omega)]
    refine iteF ⟨_, rfl, _, _, rfl, rfl, _, rfl, ?_⟩
    rw [decide_eq_false (show ¬ e > 20 by omega)]
    refine iteF ⟨_, rfl, ?_⟩
    refine ⟨_, rfl, _, _, rfl, rfl, _, rfl, ?_⟩
    rw [decide_eq_true e1]
    exact iteT ⟨⟨⟨a, rfl, ra⟩, rfl, trivial, trivial, trivial⟩, ⟨trivial, hn⟩, z⟩
end
end T06

/-! The texts of fractions of many digits. -/
namespace T06
open PySem PySem.Spec PyProof.Rows L2 SF SQ
section
variable {P : Program} {w : World} {K : PySem.W.Frag} {mg : Str → Option Value} {base : Heap} {C : Addr}
theorem ok_ReprB (T : Tx K mg C) (N : ND K) : FnOk P w K mg base CX0 1 T.aRepr T.dRepr ["self"] (spReprB C) := by
  refine T.FRepr.ok scRepr (fun vs H Q E h => ?_) (fun cdv A outer s H vs Q E hr h => ?_)
  · obtain ⟨a, n, q, rfl, _⟩ := h
    rfl
  · obtain ⟨a, n, x, rfl, ⟨⟨dx, hp⟩, sz⟩, hn, q⟩ := h
    have l5 := sizeLine_eq
    have lt := big43 sz.1 hn
    have lb := big43 (show (x.den : Int).natAbs < 2 ^ n from sz.2) hn
    have x1 := tx_lenB sz.1 hn
    have x2 := tx_lenB (show (x.den : Int).natAbs < 2 ^ n from sz.2) hn
    have s0 : Str.empty.length = 0 := rfl
    have s1 : ("Ratio(" : Str).length = 6 := rfl
    have s2 : (", " : Str).length = 2 := rfl
    have s3 : (")" : Str).length = 1 := rfl
    unfold LIM at x1 x2
    refine ⟨_, (pss_one (ps_ret (pe_joined (.cons pe_str (.cons (pe_fmtB N rfl (pe_fld (pv 0) rfl)) (.cons pe_str (.cons (pe_fmtB N rfl (pe_fld (pv 0) rfl)) (.cons pe_str .nil)))))))), ?_⟩
    refine ⟨_, rfl, ?_, _, rfl, a, C, dx, _, _, rfl, hp, T.rc.cl, T.rc.nT, rf_top _ _, ⟨_, rfl, lt, _, rfl, ?_, _, rfl, ?_, _, rfl, a, C, dx, _, _, rfl, hp, T.rc.cl, T.rc.nB, rf_bot _ _, ⟨_, rfl, lb, _, rfl, ?_, _, rfl, ?_, q⟩⟩⟩
    · simp only [Str.length_append]; omega
    · simp only [Str.length_append]; omega
    · simp only [Str.length_append]; omega
    · simp only [Str.length_append]; omega
    · simp only [Str.length_append]; omega
def DReprB (T : Tx K mg C) (N : ND K) : Df P w K mg base 1 ["self"] (spReprB C) := ⟨_, _, ok_ReprB T N, T.bRepr⟩
end
end T06

/-! The law's word and fields of a caught error. -/
namespace T06
open PySem PySem.Spec PyProof.Rows L2 SF SQ SFT L2H
section
variable {P : Program} {w : World} {K : PySem.W.Frag} {mg : Str → Option Value} {base : Heap} {cs bs : Nat → Addr} {H H' : Hp} {a : Addr} {oe : Obj} {d : Option Addr} {fs : List (Str × V)} {i : Nat} {f : Addr} {fd : FuncData}
theorem upd_gotC {H H' : Hp} {p : Addr} {o : HO} (h : upd H p o = H') : H' p = some o := by rw [← h]; exact upd_same
theorem upd_stayC {H H' : Hp} {p : Addr} {o : HO} (h : upd H p o = H') (n : H p = none) : Same H H' := by rw [← h]; exact fun b u e => by rw [upd_ne (ne_of_none e n)]; exact e
def spWd (a : Addr) (d : Option Addr) (fs : List (Str × V)) (i : Nat) : Sp := fun vs H Q _ => vs = [.ref a] ∧ EdOk H d fs ∧ ∀ H', Same H H' → Q (.str (cnm i)) H'

def blWd (i : Nat) : List V := [V.bl (decide (i = 0)), V.bl (decide (i = 1)), V.bl (decide (i = 2)), V.bl (decide (i = 3)), V.bl (decide (i = 4)), V.bl (decide (i = 5)), V.bl (decide (i = 6)), V.bl (decide (i = 7)), V.bl (decide (i = 8)), V.bl (decide (i = 9)), V.bl (decide (i = 10)), V.bl (decide (i = 11))]
def wlWd : List V := cnms.map V.str
theorem wd_c : ∀ i, i < 12 → (blWd i).countP (fun z => eqV z (.bl true)) = 1 := by decide +kernel
theorem wd_i : ∀ i, i < 12 → (blWd i)[i]? = some (V.bl true) ∧ (∀ m, m < i → (blWd i)[m]? = some (V.bl false)) ∧ wlWd[i]? = some (.str (cnm i)) := by decide +kernel
theorem okWd (F : Fun K "_law_word" "_law_word" sWord f fd) (T : CErr K mg cs bs) (hi : i < 12) (hz : Zc (.ref (cs i)) d oe) (hf : ∃ vs, oe.data = .fields vs) : FnP P w K mg base CX0 1 (a, oe) f fd ["_law_e"] (spWd a d fs i) := by
  refine SFT.Fun.okP F scWord (fun vs H Q E h => ?_) (fun cdv A outer s H vs Q E hg hr h => ?_)
  · obtain ⟨rfl, _⟩ := h
    rfl
  · obtain ⟨rfl, HA, q⟩ := h
    refine ⟨_, (pss_cons (ps_set (i := 1) scWord.nd rfl (.inl rfl) (pe_lst (pa_cons (pe_callB (call_isP2 (T.ex i hi) hz hf List.mem_cons_self) (by rfl) T.isi (by decide +kernel) (pa_cons (pv 0) (pa_cons (pe_glob (v := .ref (cs 0)) (u := .ref (cs 0)) (by rfl) (T.g 0 (by decide)) rfl) pa_nil))) (pa_cons (pe_callB (call_isP2 (T.ex i hi) hz hf List.mem_cons_self) (by rfl) T.isi (by decide +kernel) (pa_cons (pv 0) (pa_cons (pe_glob (v := .ref (cs 1)) (u := .ref (cs 1)) (by rfl) (T.g 1 (by decide)) rfl) pa_nil))) (pa_cons (pe_callB (call_isP2 (T.ex i hi) hz hf List.mem_cons_self) (by rfl) T.isi (by decide +kernel) (pa_cons (pv 0) (pa_cons (pe_glob (v := .ref (cs 2)) (u := .ref (cs 2)) (by rfl) (T.g 2 (by decide)) rfl) pa_nil))) pa_nil)))))
      (pss_cons (ps_set (i := 1) scWord.nd rfl (.inl rfl) (pe_op op_cat (pv 1) (pe_lst (pa_cons (pe_callB (call_isP2 (T.ex i hi) hz hf List.mem_cons_self) (by rfl) T.isi (by decide +kernel) (pa_cons (pv 0) (pa_cons (pe_glob (v := .ref (cs 3)) (u := .ref (cs 3)) (by rfl) (T.g 3 (by decide)) rfl) pa_nil))) (pa_cons (pe_callB (call_isP2 (T.ex i hi) hz hf List.mem_cons_self) (by rfl) T.isi (by decide +kernel) (pa_cons (pv 0) (pa_cons (pe_glob (v := .ref (cs 4)) (u := .ref (cs 4)) (by rfl) (T.g 4 (by decide)) rfl) pa_nil))) (pa_cons (pe_callB (call_isP2 (T.ex i hi) hz hf List.mem_cons_self) (by rfl) T.isi (by decide +kernel) (pa_cons (pv 0) (pa_cons (pe_glob (v := .ref (cs 5)) (u := .ref (cs 5)) (by rfl) (T.g 5 (by decide)) rfl) pa_nil))) pa_nil))))))
      (pss_cons (ps_set (i := 1) scWord.nd rfl (.inl rfl) (pe_op op_cat (pv 1) (pe_lst (pa_cons (pe_callB (call_isP2 (T.ex i hi) hz hf List.mem_cons_self) (by rfl) T.isi (by decide +kernel) (pa_cons (pv 0) (pa_cons (pe_glob (v := .ref (cs 6)) (u := .ref (cs 6)) (by rfl) (T.g 6 (by decide)) rfl) pa_nil))) (pa_cons (pe_callB (call_isP2 (T.ex i hi) hz hf List.mem_cons_self) (by rfl) T.isi (by decide +kernel) (pa_cons (pv 0) (pa_cons (pe_glob (v := .ref (cs 7)) (u := .ref (cs 7)) (by rfl) (T.g 7 (by decide)) rfl) pa_nil))) (pa_cons (pe_callB (call_isP2 (T.ex i hi) hz hf List.mem_cons_self) (by rfl) T.isi (by decide +kernel) (pa_cons (pv 0) (pa_cons (pe_glob (v := .ref (cs 8)) (u := .ref (cs 8)) (by rfl) (T.g 8 (by decide)) rfl) pa_nil))) pa_nil))))))
      (pss_cons (ps_set (i := 1) scWord.nd rfl (.inl rfl) (pe_op op_cat (pv 1) (pe_lst (pa_cons (pe_callB (call_isP2 (T.ex i hi) hz hf List.mem_cons_self) (by rfl) T.isi (by decide +kernel) (pa_cons (pv 0) (pa_cons (pe_glob (v := .ref (cs 9)) (u := .ref (cs 9)) (by rfl) (T.g 9 (by decide)) rfl) pa_nil))) (pa_cons (pe_callB (call_isP2 (T.ex i hi) hz hf List.mem_cons_self) (by rfl) T.isi (by decide +kernel) (pa_cons (pv 0) (pa_cons (pe_glob (v := .ref (cs 10)) (u := .ref (cs 10)) (by rfl) (T.g 10 (by decide)) rfl) pa_nil))) (pa_cons (pe_callB (call_isP2 (T.ex i hi) hz hf List.mem_cons_self) (by rfl) T.isi (by decide +kernel) (pa_cons (pv 0) (pa_cons (pe_glob (v := .ref (cs 11)) (u := .ref (cs 11)) (by rfl) (T.g 11 (by decide)) rfl) pa_nil))) pa_nil))))))
      (pss_cons (ps_set (i := 2) scWord.nd rfl (.inl rfl) (pe_lst (pa_cons pe_str (pa_cons pe_str (pa_cons pe_str (pa_cons pe_str (pa_cons pe_str (pa_cons pe_str pa_nil))))))))
      (pss_cons (ps_set (i := 2) scWord.nd rfl (.inl rfl) (pe_op op_cat (pv 2) (pe_lst (pa_cons pe_str (pa_cons pe_str (pa_cons pe_str (pa_cons pe_str (pa_cons pe_str (pa_cons pe_str pa_nil)))))))))
      (pss_one (ps_ret (pe_ifExp (pt_cmpR op_eq (pe_bm PySem.F.plainAttrs_list PySem.F.slot_list_count PySem.F.type_list_count SX.mt_countF (pv 1) (pa_cons pe_bl pa_nil)) pe_int (nomark _)) (pe_ix ix_list (pv 2) (pe_bm PySem.F.plainAttrs_list PySem.F.slot_list_index PySem.F.type_list_index mt_index (pv 1) (pa_cons pe_bl pa_nil)) (fun _ _ => rfl)) pe_str))))))))), ?_⟩
    refine ⟨_, rfl, _, _, _, fs, rfl, .own _, HA, T.kit i 0 hi (by decide), _, rfl, _, _, _, fs, rfl, .own _, HA, T.kit i 1 hi (by decide), _, rfl, _, _, _, fs, rfl, .own _, HA, T.kit i 2 hi (by decide), (by show 3 ≤ sizeLine; decide), fun p1 n1 => ?_⟩
    generalize h1 : upd H p1 _ = H1
    have g1 := upd_gotC h1
    have y1 := upd_stayC h1 n1
    replace HA := HA.same y1
    refine ⟨_, rfl, _, rfl, _, _, _, fs, rfl, .own _, HA, T.kit i 3 hi (by decide), _, rfl, _, _, _, fs, rfl, .own _, HA, T.kit i 4 hi (by decide), _, rfl, _, _, _, fs, rfl, .own _, HA, T.kit i 5 hi (by decide), (by show 3 ≤ sizeLine; decide), fun p2 n2 => ?_⟩
    generalize h2 : upd H1 p2 _ = H2
    have g2 := upd_gotC h2
    have y2 := upd_stayC h2 n2
    replace HA := HA.same y2
    have k2 := y2 _ _ g1
    refine ⟨p1, p2, _, _, rfl, rfl, k2, g2, (by show 6 ≤ sizeLine; decide), fun p3 n3 => ?_⟩
    generalize h3 : upd H2 p3 _ = H3
    have g3 := upd_gotC h3
    have y3 := upd_stayC h3 n3
    replace HA := HA.same y3
    refine ⟨_, rfl, _, rfl, _, _, _, fs, rfl, .own _, HA, T.kit i 6 hi (by decide), _, rfl, _, _, _, fs, rfl, .own _, HA, T.kit i 7 hi (by decide), _, rfl, _, _, _, fs, rfl, .own _, HA, T.kit i 8 hi (by decide), (by show 3 ≤ sizeLine; decide), fun p4 n4 => ?_⟩
    generalize h4 : upd H3 p4 _ = H4
    have g4 := upd_gotC h4
    have y4 := upd_stayC h4 n4
    replace HA := HA.same y4
    have k4 := y4 _ _ g3
    refine ⟨p3, p4, _, _, rfl, rfl, k4, g4, (by show 9 ≤ sizeLine; decide), fun p5 n5 => ?_⟩
    generalize h5 : upd H4 p5 _ = H5
    have g5 := upd_gotC h5
    have y5 := upd_stayC h5 n5
    replace HA := HA.same y5
    refine ⟨_, rfl, _, rfl, _, _, _, fs, rfl, .own _, HA, T.kit i 9 hi (by decide), _, rfl, _, _, _, fs, rfl, .own _, HA, T.kit i 10 hi (by decide), _, rfl, _, _, _, fs, rfl, .own _, HA, T.kit i 11 hi (by decide), (by show 3 ≤ sizeLine; decide), fun p6 n6 => ?_⟩
    generalize h6 : upd H5 p6 _ = H6
    have g6 := upd_gotC h6
    have y6 := upd_stayC h6 n6
    replace HA := HA.same y6
    have k6 := y6 _ _ g5
    refine ⟨p5, p6, _, _, rfl, rfl, k6, g6, (by show 12 ≤ sizeLine; decide), fun p7 n7 => ?_⟩
    generalize h7 : upd H6 p7 _ = H7
    have g7 := upd_gotC h7
    have y7 := upd_stayC h7 n7
    replace HA := HA.same y7
    refine ⟨(by show 6 ≤ sizeLine; decide), fun p8 n8 => ?_⟩
    generalize h8 : upd H7 p8 _ = H8
    have g8 := upd_gotC h8
    have y8 := upd_stayC h8 n8
    replace HA := HA.same y8
    refine ⟨_, rfl, (by show 6 ≤ sizeLine; decide), fun p9 n9 => ?_⟩
    generalize h9 : upd H8 p9 _ = H9
    have g9 := upd_gotC h9
    have y9 := upd_stayC h9 n9
    replace HA := HA.same y9
    have k9 := y9 _ _ g8
    refine ⟨p8, p9, _, _, rfl, rfl, k9, g9, (by show 12 ≤ sizeLine; decide), fun p10 n10 => ?_⟩
    generalize h10 : upd H9 p10 _ = H10
    have g10 := upd_gotC h10
    have y10 := upd_stayC h10 n10
    replace HA := HA.same y10
    have S : Same H H10 := (((((((((y1.trans y2).trans y3).trans y4).trans y5).trans y6).trans y7).trans y8).trans y9).trans y10)
    have gs : H10 p7 = some (.lst (blWd i)) := (y10 _ _ (y9 _ _ (y8 _ _ g7)))
    have gw : H10 p10 = some (.lst wlWd) := g10
    have fall : (blWd i).all flatV = true := rfl
    refine ⟨_, rfl, .inl ⟨rfl, _, SqL.of gs⟩, p7, _, _, rfl, rfl, SqL.of gs, rfl, fall, rfl, _, rfl, ?_⟩
    rw [wd_c i hi]
    obtain ⟨e1, e2, e3⟩ := wd_i i hi
    refine ite2 (fun _ => ⟨_, rfl, _, rfl, .inl ⟨rfl, _, SqL.of gs⟩, p7, _, _, i, _, rfl, rfl, SqL.of gs, rfl, fall, e1, rfl, (fun m z hm hz => ?_), p10, _, _, _, rfl, rfl, SqL.of gw, atI_nat e3, ?_⟩) (fun z => absurd rfl z)
    · rw [e2 m hm] at hz
      cases hz
      rfl
    · exact q _ S
def spFd (a : Addr) (d : Option Addr) (fs : List (Str × V)) (i : Nat) : Sp := fun vs H Q _ => ∃ ys, vs = [.ref a, .str (cnm i)] ∧ EdOk H d fs ∧ given i fs = some ys ∧ ∀ p H', Same H H' → H' p = some (.tup ys) → Q (.ref p) H'
theorem okFd (F : Fun K "_law_fields" "_law_fields" sFields f fd) (T : CErr K mg cs bs) (hi : i < 12) (hz : Zc (.ref (cs i)) d oe) (hf : ∃ vs, oe.data = .fields vs) : FnP P w K mg base CX0 1 (a, oe) f fd ["_law_e", "_law_word_here"] (spFd a d fs i) := by
  refine SFT.Fun.okP F scFields (fun vs H Q E h => ?_) (fun cdv A outer s H vs Q E hg hr h => ?_)
  · obtain ⟨ys, rfl, _⟩ := h
    rfl
  · obtain ⟨ys, rfl, HA, hg, q⟩ := h
    refine ⟨_, (pss_cons (ps_if (pt_cmpR op_in_seq (pv 1) (pe_lst (pa_cons pe_str (pa_cons pe_str pa_nil))) rfl) (pss_one (ps_ret (pe_tup pa_nil))) pss_nil)
      (pss_cons (ps_if (pt_cmpR op_eq (pv 1) pe_str (nomark _)) (pss_one (ps_ret (pe_tup (pa_cons (pe_fldP (T.xf i hi) (T.no i hi _ (by decide)) hz hf List.mem_cons_self (pv 0)) pa_nil)))) pss_nil)
      (pss_one (ps_ret (pe_ifExp (pt_cmpR op_eq (pv 1) pe_str (nomark _)) (pe_tup (pa_cons (pe_fldP (T.xf i hi) (T.no i hi _ (by decide)) hz hf List.mem_cons_self (pv 0)) pa_nil)) (pe_tup (pa_cons (pe_fldP (T.xf i hi) (T.no i hi _ (by decide)) hz hf List.mem_cons_self (pv 0)) pa_nil))))))), ?_⟩
    refine ⟨_, rfl, (by show 2 ≤ sizeLine; decide), fun p1 n1 => ⟨p1, _, rfl, .inl (SqL.of upd_same), rfl, rfl, _, rfl, ?_⟩⟩
    generalize h1 : upd H p1 _ = H1
    have y1 := upd_stayC h1 n1
    have ret : ∀ p, H1 p = none → Q (.ref p) (upd H1 p (.tup ys)) := fun p hp => q p _ (fun b o e => by rw [upd_ne (ne_of_none (y1 b o e) hp)]; exact y1 b o e) upd_same
    have one : ∀ f : Str, i ≠ 10 → cfl i = f → ∃ v, ys = [v] ∧ fs.lookup f = some v := fun f hn e => by
      unfold given at hg
      rw [if_neg hn, e] at hg
      cases hl : fs.lookup f with
      | none => rw [hl] at hg; cases hg
      | some v => rw [hl] at hg; cases hg; exact ⟨v, rfl, rfl⟩
    refine ite2 (fun hc => ?_) (fun hc1 => ?_)
    · have e := (by decide +kernel : ∀ i, i < 12 → inV (.str (cnm i)) [.str "", .str "DividedByZero"] = true → i = 10) i hi hc
      subst e
      cases hg
      exact ⟨(by show 0 ≤ sizeLine; decide), fun p np => ret p np⟩
    have n10 : i ≠ 10 := fun e => by subst e; exact absurd hc1 (by decide +kernel)
    refine ⟨_, rfl, rfl, _, rfl, ?_⟩
    refine ite2 (fun hc => ?_) (fun hc2 => ?_)
    · have e := (by decide +kernel : ∀ i, i < 12 → decide (V.str (cnm i) = V.str "TextError") = true → cfl i = ("place" : Str)) i hi hc
      obtain ⟨v, rfl, l⟩ := one _ n10 e
      exact ⟨_, rfl, fs, v, rfl, HA.same y1, l, (by show 1 ≤ sizeLine; decide), fun p np => ret p np⟩
    refine ⟨_, rfl, rfl, _, rfl, ?_⟩
    refine ite2 (fun hc => ?_) (fun hc3 => ?_)
    · have e := (by decide +kernel : ∀ i, i < 12 → decide (V.str (cnm i) = V.str "TooLarge") = true → cfl i = ("limit" : Str)) i hi hc
      obtain ⟨v, rfl, l⟩ := one _ n10 e
      exact ⟨_, rfl, fs, v, rfl, HA.same y1, l, (by show 1 ≤ sizeLine; decide), fun p np => ret p np⟩
    · have e : cfl i = ("given" : Str) := (by decide +kernel : ∀ i, i < 12 → decide (V.str (cnm i) = V.str "TextError") ≠ true → decide (V.str (cnm i) = V.str "TooLarge") ≠ true → cfl i = ("given" : Str)) i hi hc2 hc3
      obtain ⟨v, rfl, l⟩ := one _ n10 e
      exact ⟨_, rfl, fs, v, rfl, HA.same y1, l, (by show 1 ≤ sizeLine; decide), fun p np => ret p np⟩

end
end T06

/-! _law_caught. -/
namespace T06
open PySem PySem.Spec PyProof.Rows L2 SF SQ SFT L2H LamX
abbrev cxC (X : Cx) (g : Addr) (cdg : Value) (s : Shared) (H : Hp) : Cx := (cxOf C8.CX0 X.prog X.w X.K X.mg X.base ["_law_action", "_law_shown", "_law_e", "_law_word_here"] "_law_caught" (defScope sCaught) g cdg X.A X.stack s H C8.E0).nox
section
variable {X : Cx} {cs bs : Nat → Addr} {RV RP : List V → Hp → VK → Prop} {g fW fF : Addr} {fdW fdF : FuncData} {cdg : Value} {q : Str}
theorem caught_gives (T : CErr X.K X.mg cs bs) (hgd : X.A.guards = some []) (hr : Room 3 X.A) (FW : Fun X.K "_law_word" "_law_word" sWord fW fdW) (bW : Binds X.K fdW ["_law_e"] []) (gW : X.mg "_law_word" = some (.ref fW))
    (FF : Fun X.K "_law_fields" "_law_fields" sFields fF fdF) (bF : Binds X.K fdF ["_law_e", "_law_word_here"] []) (gF : X.mg "_law_fields" = some (.ref fF))
    (mV : Mono RV) (mP : Mono RP) (hRV : ∀ s H, CallR (cxC X g cdg s H) (.builtin "repr") RV) (hRP : ∀ s H a oe pn, CallR ((cxC X g cdg s H).suite a ((a, oe) :: pn)) (.builtin "repr") RP) :
    GivesTo X ["_law_action", "_law_shown", "_law_e", "_law_word_here"] "_law_caught" (defScope sCaught) g cdg (defBody sCaught) "_law_action" q (TTc cs RV RP) := by
  intro f c' s H Q tl act hc h
  refine ⟨_, pss_cons (ps_try_tup3 (X := cxC X g cdg s H) (i := 2) (c1 := .ref (bs 0)) (c2 := .ref (bs 1)) (c3 := .ref (bs 2)) rfl rfl scCaught.nd rfl rfl ⟨rfl, by decide, .inl (T.gb 0 (by decide))⟩ ⟨rfl, by decide, .inl (T.gb 1 (by decide))⟩ ⟨rfl, by decide, .inl (T.gb 2 (by decide))⟩
      (tb := fun W D σ H => ∃ Ech : XK, (∀ cls d σ' H', Ech cls d H' → W cls d σ' H') ∧ σ[0]? = some (some (.ref f)) ∧ H c' = some (CodeO c' q) ∧ tl Ech H (fun v H1 => D.nx (σ.set 1 (some v)) H1))
      (ts := fun a cls d D σ H => (σ.length = 4 → σ[2]? = some (some (.ref a))) ∧ XKc cs RP D.rt cls d H) (fun W pn xe _ tk _ => ?_) (fun a oe cls d pn hz hf => ?_))
    (pss_one (ps_ret (pe_lst (pa_cons pe_str (pa_cons (pe_callB (hRV s H) (by rfl) T.rep (by decide +kernel) (pa_cons (pv 1) pa_nil)) pa_nil))))), ?_⟩
  · refine ⟨fun pins s' σ H' D I h' => ?_⟩
    obtain ⟨Ech, hW, h1, h2, h3⟩ := h'
    exact (pss_one (ps_set (i := 1) scCaught.nd rfl (.inl rfl) (act W pn xe Ech _ _ tk hW))).run pins s' σ H' D I ⟨h1, h2, h3⟩
  · refine pss_of fun pins s' σ H' D I h' => ?_
    obtain ⟨hs, i, fs, ys, hi, rfl, ed, hg, z⟩ := h'
    have hrd : Room 2 (cxC X g cdg s H).A := hr.deeper _
    have hrH : RoomH 2 ((cxC X g cdg s H).suite a ((a, oe) :: pn)).A := ⟨hrd.dp, hrd.un⟩
    have GW : FnP X.prog X.w X.K X.mg X.base CX0 2 (a, oe) fW fdW ["_law_e"] (spWd a d fs i) := (okWd FW T hi hz hf).mono (by decide)
    have GF : FnP X.prog X.w X.K X.mg X.base CX0 2 (a, oe) fF fdF ["_law_e", "_law_word_here"] (spFd a d fs i) := (okFd FF T hi hz hf).mono (by decide)
    obtain ⟨x0, x1, x2, x3, rfl⟩ := len4 I.len
    cases (show some x2 = some (some (.ref a)) from hs rfl)
    refine ⟨_, pss_cons (ps_set (i := 3) scCaught.nd rfl (.inl rfl) (pe_callP (E := fun _ => E0) GW hgd hrH List.mem_cons_self (by rfl) gW FW.kp bW (fun _ => passA) (pa_cons (pv 2) pa_nil)))
      (pss_one (ps_ret (pe_lst (pa_cons (pv 3) (pa_cons (pe_callB (hRP s H a oe pn) (by rfl) T.rep (by decide +kernel) (pa_cons (pe_callP (E := fun _ => E0) GF hgd hrH List.mem_cons_self (by rfl) gF FF.kp bF (fun _ => passA) (pa_cons (pv 2) (pa_cons (pv 3) pa_nil))) pa_nil)) pa_nil))))), ?_⟩
    refine ⟨_, rfl, rfl, ed, fun H1 S1 => ⟨_, rfl, _, rfl, _, rfl, ys, rfl, ed.same S1, hg, fun p H2 S2 e2 => ?_⟩⟩
    exact mP _ _ _ _ (fun y H3 ⟨t, e, r⟩ => ⟨(by show 2 ≤ sizeLine; decide), fun L nL => by subst e; exact r L _ (fun b o e => by rw [upd_ne (ne_of_none e nL)]; exact e) nL upd_same⟩) (z p H2 (fun b o e => S2 b o (S1 b o e)) e2)
  · refine ⟨XKc cs RP Q, fun cls d σ' H' x => ?_, rfl, hc, ?_⟩
    · obtain ⟨i, fs, ys, hi, rfl, r⟩ := id x
      refine ⟨T.cat i hi, fun a na => ⟨fun hl => ?_, x⟩⟩
      rw [List.getElem?_set_self (by rw [List.length_set] at hl; omega)]
    · exact h _ fun v H1 r => ⟨_, rfl, mV _ _ _ _ (fun y H3 ⟨t, e, r⟩ => ⟨(by show 2 ≤ sizeLine; decide), fun L nL => by subst e; exact r L _ (fun b o e => by rw [upd_ne (ne_of_none e nL)]; exact e) nL upd_same⟩) r⟩
end
end T06

/-! _law_caught(lambda: e). -/
namespace T06
open PySem PySem.Spec PyProof.Rows L2 SF SQ SFT L2H LamX
section
variable {X : Cx} {C : Addr} {cs bs : Nat → Addr} {T : List (Addr × Str)} {c P : Addr} {k : Nat} {params : Arguments} {body : Expr} {scope : Scope} {t : XK → TE} {p lpos pos : Pos}
theorem lam_caught (T0 : Tx X.K X.mg C) (Z : CErr X.K X.mg cs bs) (N : ND X.K) (hgd : X.A.guards = some []) (hr : Room (k + 4) X.A) (hg : Gl X "_law_caught") (TB : TabB X.base X.mg c P) (hcode : X.env.code = .ref c) (hmT : (P, X.env.qual ++ "<lambda>") ∈ T) (hu : ∀ p ∈ T, p.1 = P → p.2 = X.env.qual ++ "<lambda>")
    (L : LamS X.env.scope scope) (hbody : ∀ (A : Around) (outer : List PySem.Env) (s : Shared) (H : Hp) (E : XK) (f c' : Addr), Room (k + 2) (A.deeper (lamEnv X scope s.heap.objs.size f c')) → PE (lamCx X A outer s H E scope f c') body (t E))
    (hdef : defaultsOf params X.env = ([], []) := by rfl) (hbind : ∀ (q : Str) (cl : List (Str × Addr)) (pm cv ctv : Value), bindArgs (PySem.W.kla_fn "<lambda>" q params body scope cl pm cv ctv) ⟨[], []⟩ = pure [] := by intros; rfl) :
    PE X (.Call (.Name "_law_caught" p) [.Lambda params body scope lpos] [] pos) (tLam T (TTc cs (rOwnR C) SX.rReprS) t) := by
  obtain ⟨oc, od, kV, doc, pm, an, cdv, ct, osl, ed, lk, hcd⟩ := T0.FCaught.ex
  have hb := T0.bCaught
  rw [ed] at lk hb
  refine pe_lamcall (k := k + 2) hg T0.gCaught T0.FCaught.kp lk hcd hb scCaught rfl (.inl rfl) ?_ TB hcode hmT hu hr L hdef hbind hbody
  refine caught_gives Z hgd (hr.mono (by omega)) T0.FWord T0.bWord T0.gWord T0.FFields T0.bFields T0.gFields mono_ownR SFT.mono_reprS (fun s H => ?_) (fun s H a oe pn => ?_)
  · have hr3 : Room 3 (X.A.deeper (envOfC "_law_caught" (defScope sCaught) s.heap.objs.size T0.aCaught cdv)) := (hr.mono (show 4 ≤ k + 4 by omega)).deeper _
    exact call_reprOwn (E := E0) T0.hRepr.h T0.hRepr.i (ok_ReprB T0 N) T0.bRepr (hr3.mono (by decide)) pass0
  · have hr3 : Room 3 (X.A.deeper (envOfC "_law_caught" (defScope sCaught) s.heap.objs.size T0.aCaught cdv)) := (hr.mono (show 4 ≤ k + 4 by omega)).deeper _
    exact call_reprH (k := 3) hgd ⟨hr3.dp, hr3.un⟩
end
end T06

/-! The defs that refuse what they are given. -/
namespace T06
open PySem PySem.Spec PyProof.Rows L2 SF SQ
section
variable {P : Program} {w : World} {K : PySem.W.Frag} {mg : Str → Option Value} {base : Heap}
theorem scENum : FnScope ["self", "given"] ["self", "given"] (defScope sENum) := ⟨rfl, rfl, rfl, by decide +kernel, rfl, by decide +kernel, by decide +kernel⟩
theorem ok_ENum {C fI : Addr} {fd : FuncData} (O : OEK K mg "InvalidNumber" "InvalidNumber.__init__" sENum C fI fd) : OE P w K mg base "InvalidNumber" C fI fd := by
  obtain ⟨hT, h1, h2, hno⟩ := oexB_ok O.x
  refine ⟨O.g, hT, h1, h2, ?_, O.b⟩
  refine O.F.ok scENum (fun vs H Q E h => ?_) (fun cdv A outer s H vs Q E hr h => ?_)
  · obtain ⟨p, y, rfl, _⟩ := h
    rfl
  · obtain ⟨p, y, rfl, hp, q⟩ := h
    exact ⟨_, pss_one (ps_ost (pv 0) (pv 1)), _, rfl, _, rfl, p, C, rfl, hT, hno, .inl ⟨hp, q⟩⟩
theorem scETxt : FnScope ["self", "given"] ["self", "given"] (defScope sETxt) := ⟨rfl, rfl, rfl, by decide +kernel, rfl, by decide +kernel, by decide +kernel⟩
theorem ok_ETxt {C fI : Addr} {fd : FuncData} (O : OEK K mg "InvalidText" "InvalidText.__init__" sETxt C fI fd) : OE P w K mg base "InvalidText" C fI fd := by
  obtain ⟨hT, h1, h2, hno⟩ := oexB_ok O.x
  refine ⟨O.g, hT, h1, h2, ?_, O.b⟩
  refine O.F.ok scETxt (fun vs H Q E h => ?_) (fun cdv A outer s H vs Q E hr h => ?_)
  · obtain ⟨p, y, rfl, _⟩ := h
    rfl
  · obtain ⟨p, y, rfl, hp, q⟩ := h
    exact ⟨_, pss_one (ps_ost (pv 0) (pv 1)), _, rfl, _, rfl, p, C, rfl, hT, hno, .inl ⟨hp, q⟩⟩
theorem scECnt : FnScope ["self", "given"] ["self", "given"] (defScope sECnt) := ⟨rfl, rfl, rfl, by decide +kernel, rfl, by decide +kernel, by decide +kernel⟩
theorem ok_ECnt {C fI : Addr} {fd : FuncData} (O : OEK K mg "InvalidCount" "InvalidCount.__init__" sECnt C fI fd) : OE P w K mg base "InvalidCount" C fI fd := by
  obtain ⟨hT, h1, h2, hno⟩ := oexB_ok O.x
  refine ⟨O.g, hT, h1, h2, ?_, O.b⟩
  refine O.F.ok scECnt (fun vs H Q E h => ?_) (fun cdv A outer s H vs Q E hr h => ?_)
  · obtain ⟨p, y, rfl, _⟩ := h
    rfl
  · obtain ⟨p, y, rfl, hp, q⟩ := h
    exact ⟨_, pss_one (ps_ost (pv 0) (pv 1)), _, rfl, _, rfl, p, C, rfl, hT, hno, .inl ⟨hp, q⟩⟩
variable {C D : Addr} {fI : Addr} {fdI : FuncData}
theorem zw_ini (T : Tx K mg C) (O : OE P w K mg base "InvalidNumber" D fI fdI) : FnOk P w K mg base (L2.CX P w) 3 T.aIni T.dIni ["self", "top", "bottom"] (spWI C D) := by
  have GW : FnOk P w K mg base CX0 1 T.aIsW T.dIsW ["value"] (spIsW C) := ok_isW T
  refine T.FIni.ok scIni (fun vs H Q E h => ?_) (fun cdv A outer s H vs Q E hr h => ?_)
  · obtain ⟨p, t, b, rfl, z⟩ := h
    rfl
  · obtain ⟨p, t, b, rfl, z⟩ := h
    have hr1 := hr.mono (show 1 ≤ 2 by decide)
    refine ⟨_, (pss_cons (ps_if (pt_not (pt_val (pe_call GW hr1 (by rfl) T.gIsW T.FIsW.kp T.bIsW .nil pass0 (pa_cons (pv 1) pa_nil)))) (pss_one (ps_oe O rfl (takes_of (E := E) rfl rfl rfl rfl) hr (by rfl) (pv 1) (fun _ _ _ _ k ⟨v, e, q⟩ => ⟨v, e, k _ _ q⟩))) pss_nil)
      (pss_cons (ps_if (pt_not (pt_val (pe_call GW hr1 (by rfl) T.gIsW T.FIsW.kp T.bIsW .nil pass0 (pa_cons (pv 2) pa_nil)))) (pss_one (ps_oe O rfl (takes_of (E := E) rfl rfl rfl rfl) hr (by rfl) (pv 2) (fun _ _ _ _ k ⟨v, e, q⟩ => ⟨v, e, k _ _ q⟩))) pss_nil)
      pss_never)), ?_⟩
    rcases z with ⟨ht, z⟩ | ⟨i, rfl, hb, z⟩
    · change tIfS _ _ _ _ _ _
      refine isw_if (by rfl) ht ?_
      exact ⟨_, rfl, z⟩
    · change tIfS _ _ _ _ _ _
      refine isw_if (b := true) (by rfl) (.inl ⟨_, .int i, rfl⟩) (iteF ?_)
      unfold tNext
      dsimp only
      change tIfS _ _ _ _ _ _
      refine isw_if (by rfl) hb ?_
      exact ⟨_, rfl, z⟩
theorem zw_Over (T : Tx K mg C) (O : OE P w K mg base "InvalidNumber" D fI fdI) : FnOk P w K mg base (L2.CX P w) 3 T.aOver T.dOver ["self", "other"] (spWO D) := by
  have GN : FnOk P w K mg base CX0 2 T.aIsN T.dIsN ["value"] (spIsN C) := ok_isN T
  refine SQ.Fun.okX T.FOver scOver (fun vs H Q E h => ?_) (fun cdv A outer s H vs Q E hr h => ?_)
  · obtain ⟨a, v, rfl, _⟩ := h
    rfl
  · obtain ⟨a, v, rfl, ⟨t, d, e⟩, z⟩ := h
    refine ⟨_, (pss_cons (ps_if (pt_not (pt_val (pe_call GN hr (by rfl) T.gIsN T.FIsN.kp T.bIsN .nil pass0 (pa_cons (pv 1) pa_nil)))) (pss_one (ps_oe O rfl (takes_of (E := E) rfl rfl rfl rfl) hr (by rfl) (pv 1) (fun _ _ _ _ k ⟨v, e, q⟩ => ⟨v, e, k _ _ q⟩))) pss_nil) pss_never), ?_⟩
    refine ⟨_, rfl, _, rfl, .inl ⟨_, d, _, rfl, ?_⟩⟩
    rw [e]
    exact iteT ⟨_, rfl, z⟩
theorem zw_Power (T : Tx K mg C) (O : OE P w K mg base "InvalidCount" D fI fdI) : FnOk P w K mg base (L2.CX P w) 3 T.aPower T.dPower ["self", "exponent"] (spWP C D) := by
  have GW : FnOk P w K mg base CX0 2 T.aIsW T.dIsW ["value"] (spIsW C) := (ok_isW T).mono (by decide)
  refine SQ.Fun.okX T.FPower scPower (fun vs H Q E h => ?_) (fun cdv A outer s H vs Q E hr h => ?_)
  · obtain ⟨a, v, rfl, _⟩ := h
    rfl
  · obtain ⟨a, v, rfl, h, z⟩ := h
    refine ⟨_, (pss_cons (ps_if (PW.pt (pw_or (pt_not (pt_val (pe_call GW hr (by rfl) T.gIsW T.FIsW.kp T.bIsW .nil pass0 (pa_cons (pv 1) pa_nil)))) (pw_or (pt_cmpR op_lt (pv 1) (pe_un un_neg (pe_glob (v := .int 20) (by rfl) T.mp ⟨_, rfl⟩)) (nomark _)) (pw_or1 (pt_cmpR op_gt (pv 1) (pe_glob (v := .int 20) (by rfl) T.mp ⟨_, rfl⟩) (nomark _))))))
      (pss_one (ps_oe O rfl (takes_of (E := E) rfl rfl rfl rfl) hr (by rfl) (pv 1) (fun _ _ _ _ k ⟨v, e, q⟩ => ⟨v, e, k _ _ q⟩))) pss_nil) pss_never), ?_⟩
    rcases h with (⟨t, d, e⟩ | ⟨d, -⟩) | ⟨e, rfl, he⟩
    · refine ⟨_, rfl, _, rfl, .inl ⟨_, d, _, rfl, ?_⟩⟩
      rw [e]
      exact iteT (iteT ⟨_, rfl, z⟩)
    · exact ⟨_, rfl, _, rfl, .inr ⟨d, _, rfl, iteT (iteT ⟨_, rfl, z⟩)⟩⟩
    · refine ⟨_, rfl, _, rfl, .inl ⟨_, .int e, _, rfl, ?_⟩⟩
      refine iteF ⟨_, rfl, _, rfl, _, _, rfl, rfl, _, rfl, ?_⟩
      by_cases hl : e < -20
      · rw [decide_eq_true hl]
        exact iteT (iteT ⟨_, rfl, z⟩)
      · rw [decide_eq_false hl]
        refine iteF ⟨_, rfl, _, _, rfl, rfl, _, rfl, ?_⟩
        rw [decide_eq_true (show e > 20 by omega)]
        exact iteT ⟨_, rfl, z⟩
theorem zw_IsT (T : Tx K mg C) (kS : PySem.W.kitOne K (.ref C) (.type "str") = some false) : FnOk P w K mg base CX0 1 T.aIsT T.dIsT ["text"] (fun vs H Q _ => ∃ v, vs = [v] ∧ ((∃ T, Dec H v T ∧ T ≠ "str") ∨ IsIns C H v) ∧ Q (.bl false) H) := by
  refine T.FIsT.ok scIsT (fun vs H Q E h => ?_) (fun cdv A outer s H vs Q E hr h => ?_)
  · obtain ⟨v, rfl, _⟩ := h
    rfl
  · obtain ⟨v, rfl, h, q⟩ := h
    refine ⟨_, (pss_cons (ps_if (pt_not (pt_val (pe_callB call_isi (by rfl) T.rc.isi (by decide +kernel) (pa_cons (pv 0) (pa_cons (pe_bltn (v := .ty "str") (u := .type "str") (by rfl) T.rc.str_ (by decide +kernel) rfl) pa_nil))))) (pss_one (ps_ret pe_bl)) pss_nil) pss_never), ?_⟩
    rcases h with ⟨t, d, ne⟩ | ⟨a, dx, fs, rfl, ha⟩
    · have d' := d
      cases d with
      | str x => exact absurd rfl ne
      | non => exact ⟨_, rfl, _, _, _, _, false, rfl, .ty _, d'.typ, kit_ty (by decide +kernel), false, rfl, iteT q⟩
      | bl b => exact ⟨_, rfl, _, _, _, _, false, rfl, .ty _, d'.typ, kit_ty (by decide +kernel), false, rfl, iteT q⟩
      | int i => exact ⟨_, rfl, _, _, _, _, false, rfl, .ty _, d'.typ, kit_ty (by decide +kernel), false, rfl, iteT q⟩
      | lst e => exact ⟨_, rfl, _, _, _, _, false, rfl, .ty _, d'.typ, kit_ty (by decide +kernel), false, rfl, iteT q⟩
      | tup e => exact ⟨_, rfl, _, _, _, _, false, rfl, .ty _, d'.typ, kit_ty (by decide +kernel), false, rfl, iteT q⟩
      | dK e => exact ⟨_, rfl, _, _, _, _, false, rfl, .ty _, d'.typ, kit_ty (by decide +kernel), false, rfl, iteT q⟩
    · exact ⟨_, rfl, _, _, _, _, false, rfl, .ty _, .base (.ins ha T.rc.cl T.rc.ca T.rc.cn T.rc.ct T.rc.cm), kS, false, rfl, iteT q⟩
theorem zw_Rd (T : Tx K mg C) (O : OE P w K mg base "InvalidText" D fI fdI) (kS : PySem.W.kitOne K (.ref C) (.type "str") = some false) : FnOk P w K mg base (L2.CX P w) 3 T.aRd T.dRd ["cls", "text"] (spWR C D) := by
  have GT := (zw_IsT (P := P) (w := w) (base := base) T kS).mono (show 1 ≤ 2 by decide)
  refine SQ.Fun.okX T.FRd scRd (fun vs H Q E h => ?_) (fun cdv A outer s H vs Q E hr h => ?_)
  · obtain ⟨v, rfl, _⟩ := h
    rfl
  · obtain ⟨v, rfl, h, z⟩ := h
    refine ⟨_, (pss_cons (ps_if (pt_not (pt_val (pe_call GT hr (by rfl) T.gIsT T.FIsT.kp T.bIsT .nil pass0 (pa_cons (pv 1) pa_nil)))) (pss_one (ps_oe O rfl (takes_of (E := E) rfl rfl rfl rfl) hr (by rfl) (pv 1) (fun _ _ _ _ k ⟨v, e, q⟩ => ⟨v, e, k _ _ q⟩))) pss_nil) pss_never), ?_⟩
    exact ⟨_, rfl, _, rfl, h, _, rfl, iteT ⟨_, rfl, z⟩⟩
theorem zw_Pow (T : Tx K mg C) (O : OE P w K mg base "InvalidCount" D fI fdI) : FnOk P w K mg base (L2.CX P w) 4 T.aPow T.dPow ["self", "other"] (spWQ C D) := by
  refine SQ.Fun.okX T.FPow scPow (fun vs H Q E h => ?_) (fun cdv A outer s H vs Q E hr h => ?_)
  · obtain ⟨a, n, q, e, rfl, _⟩ := h
    rfl
  · obtain ⟨a, n, q, e, rfl, ra, he, z⟩ := h
    obtain ⟨⟨dx, ea⟩, _⟩ := id ra
    refine ⟨_, (pss_one (ps_ret (pe_meth (E := E) (pv 0) T.rc.cl (mPower T) (zw_Power T O) hr T.bPower .nil (passes_call (takes_of (E := E) rfl rfl rfl rfl) (fun _ _ _ _ h => h)) (pa_cons (pv 1) pa_nil)))), ?_⟩
    exact ⟨_, rfl, a, dx, _, rfl, ea, rf_no _ _ (by decide +kernel) (by decide +kernel), _, rfl, .ref a, .int e, rfl, .inr ⟨e, rfl, he⟩, z⟩
end
end T06

/-! _law_caught(lambda: e), where the error may hold a fraction. -/
namespace T06
open PySem PySem.Spec PyProof.Rows L2 SF SQ SFT L2H LamX
section
variable {P : Program} {w : World} {K : PySem.W.Frag} {mg : Str → Option Value} {base : Heap} {C : Addr}
theorem ok_ReprQ {p : Addr × Obj} (T : Tx K mg C) : FnQ P w K mg base CX0 1 p T.aRepr T.dRepr ["self"] (spRepr C) := by
  refine SFT.Fun.okQ T.FRepr scRepr (fun vs H Q E h => ?_) (fun cdv A outer s H vs Q E hr h => ?_)
  · obtain ⟨a, n, q, rfl, _⟩ := h
    rfl
  · obtain ⟨a, n, x, rfl, ⟨⟨dx, hp⟩, sz⟩, hn, q⟩ := h
    have l5 := line5
    have lt : x.num.natAbs.log2 < 1920 := tlog sz.1 hn
    have lb : ((x.den : Int)).natAbs.log2 < 1920 := tlog (show (x.den : Int).natAbs < 2 ^ n from sz.2) hn
    have x1 : (Str.ofString (toString x.num)).length ≤ 1921 := tx_len sz.1 hn
    have x2 : (Str.ofString (toString (x.den : Int))).length ≤ 1921 := tx_len (show (x.den : Int).natAbs < 2 ^ n from sz.2) hn
    have s0 : Str.empty.length = 0 := rfl
    have s1 : ("Ratio(" : Str).length = 6 := rfl
    have s2 : (", " : Str).length = 2 := rfl
    have s3 : (")" : Str).length = 1 := rfl
    refine ⟨_, (pss_one (ps_ret (pe_joined (.cons pe_str (.cons (pe_fmt (pe_fld (pv 0) rfl)) (.cons pe_str (.cons (pe_fmt (pe_fld (pv 0) rfl)) (.cons pe_str .nil)))))))), ?_⟩
    refine ⟨_, rfl, ?_, _, rfl, a, C, dx, _, _, rfl, hp, T.rc.cl, T.rc.nT, rf_top _ _, .inr ⟨_, rfl, lt, _, rfl, ?_, _, rfl, ?_, _, rfl, a, C, dx, _, _, rfl, hp, T.rc.cl, T.rc.nB, rf_bot _ _, .inr ⟨_, rfl, lb, _, rfl, ?_, _, rfl, ?_, q⟩⟩⟩
    · simp only [Str.length_append]; omega
    · simp only [Str.length_append]; omega
    · simp only [Str.length_append]; omega
    · simp only [Str.length_append]; omega
    · simp only [Str.length_append]; omega
end
/-- repr of a thing's tuple where no error is in hand -/
theorem call_rTh {X : Cx} {C : Addr} {k : Nat} (T0 : Tx X.K X.mg C) (hgd : X.A.guards = some []) (hr : Room (k + 3) X.A) : CallR X (.builtin "repr") (rTh C) :=
  callR_or (SX.call_reprS hgd hr) (call_reprTup (k := 1) hgd ⟨by have := hr.dp; omega, by have := hr.un; omega⟩ T0.hRepr.h T0.hRepr.i (runAny_of (E := E0) (ok_Repr T0) T0.bRepr pass0 hr.hd))
section
variable {X : Cx} {C : Addr} {cs bs : Nat → Addr} {T : List (Addr × Str)} {c P : Addr} {k : Nat} {params : Arguments} {body : Expr} {scope : Scope} {t : XK → TE} {p lpos pos : Pos}
theorem lam_caughtW (T0 : Tx X.K X.mg C) (Z : CErr X.K X.mg cs bs) (N : ND X.K) (hgd : X.A.guards = some []) (hr : Room (k + 4) X.A) (hg : Gl X "_law_caught") (TB : TabB X.base X.mg c P) (hcode : X.env.code = .ref c) (hmT : (P, X.env.qual ++ "<lambda>") ∈ T) (hu : ∀ p ∈ T, p.1 = P → p.2 = X.env.qual ++ "<lambda>")
    (L : LamS X.env.scope scope) (hbody : ∀ (A : Around) (outer : List PySem.Env) (s : Shared) (H : Hp) (E : XK) (f c' : Addr), Room (k + 2) (A.deeper (lamEnv X scope s.heap.objs.size f c')) → PE (lamCx X A outer s H E scope f c') body (t E))
    (hdef : defaultsOf params X.env = ([], []) := by rfl) (hbind : ∀ (q : Str) (cl : List (Str × Addr)) (pm cv ctv : Value), bindArgs (PySem.W.kla_fn "<lambda>" q params body scope cl pm cv ctv) ⟨[], []⟩ = pure [] := by intros; rfl) :
    PE X (.Call (.Name "_law_caught" p) [.Lambda params body scope lpos] [] pos) (tLam T (TTc cs (rOwnR C) (rTh C)) t) := by
  obtain ⟨oc, od, kV, doc, pm, an, cdv, ct, osl, ed, lk, hcd⟩ := T0.FCaught.ex
  have hb := T0.bCaught
  rw [ed] at lk hb
  refine pe_lamcall (k := k + 2) hg T0.gCaught T0.FCaught.kp lk hcd hb scCaught rfl (.inl rfl) ?_ TB hcode hmT hu hr L hdef hbind hbody
  refine caught_gives Z hgd (hr.mono (by omega)) T0.FWord T0.bWord T0.gWord T0.FFields T0.bFields T0.gFields mono_ownR mono_rTh (fun s H => ?_) (fun s H a oe pn => ?_)
  · have hr3 : Room 3 (X.A.deeper (envOfC "_law_caught" (defScope sCaught) s.heap.objs.size T0.aCaught cdv)) := (hr.mono (show 4 ≤ k + 4 by omega)).deeper _
    exact call_reprOwn (E := E0) T0.hRepr.h T0.hRepr.i (ok_ReprB T0 N) T0.bRepr (hr3.mono (by decide)) pass0
  · have hr3 : Room 3 (X.A.deeper (envOfC "_law_caught" (defScope sCaught) s.heap.objs.size T0.aCaught cdv)) := (hr.mono (show 4 ≤ k + 4 by omega)).deeper _
    refine callR_or (call_reprH (k := 3) hgd ⟨hr3.dp, hr3.un⟩) ?_
    exact call_reprTup (k := 1) hgd ⟨hr3.dp, hr3.un⟩ T0.hRepr.h T0.hRepr.i (runAny_ofQ (ok_ReprQ T0) List.mem_cons_self T0.bRepr)
end
end T06

/-! over, power and their like in a lambda. -/
namespace SQ
open PySem PySem.Spec PyProof.Rows L2 SF LamX
theorem vqz {X : Cx} {C : Addr} {e : Expr} {n : Nat} {r : Rat} (L : List Sl) (j : Nat) (h : PE X e (tVar j)) (hL : L[j]? = some (.fr n r)) (z : r = 0) : PE X e (TQ C (Env C L) true n 0 True) := by
  subst z
  exact vq L j h hL
theorem pq_ofI {X : Cx} {C : Addr} {G : L2.St → Hp → Prop} {e : Expr} {i : Int} {m : Nat} {s : Prop} (h : PE X e (TI G i s)) (hi : i.natAbs < 2 ^ m) (h0 : 0 < m) : PE X e (TQ C G false m (i : Rat) s) := pe_weak h fun σ H Q ⟨hg, h1, z⟩ => ⟨hg, h1, fun H' S => z _ H' S (nvI hi h0)⟩
theorem pq_eq {X : Cx} {C : Addr} {G : L2.St → Hp → Prop} {e : Expr} {k : Bool} {m : Nat} {q r : Rat} {s : Prop} (h : PE X e (TQ C G k m q s)) (hq : q = r) : PE X e (TQ C G k m r s) := hq ▸ h
theorem ts_side {X : Cx} {G : L2.St → Hp → Prop} {e : Expr} {x : PySem.Str} {s s' : Prop} (h : PE X e (TS G x s)) (i : s' → s) : PE X e (TS G x s') := pe_weak h fun σ H Q ⟨hg, h1, z⟩ => ⟨hg, i h1, z⟩
theorem pI_geT {X : Cx} {G : L2.St → Hp → Prop} {a b : Expr} {i j : Int} {s1 s2 : Prop} {pos : Pos} (hG : GS G) (hm : behindInMarks .GtE b = false) (ha : PE X a (TI G i s1)) (hb : PE X b (TI G j s2)) : PT X (.Compare a [.GtE] [b] pos) (TBt G (decide (i ≥ j)) (s1 ∧ s2)) :=
  pt_weak (pt_cmpR op_ge ha hb hm) fun σ H Q ⟨hg, ⟨h1, h2⟩, z⟩ => ⟨hg, h1, fun H1 S1 => ⟨hG _ _ _ hg S1, h2, fun H2 S2 => ⟨_, _, rfl, rfl, ⟨_, rfl, z H2 (S1.trans S2)⟩⟩⟩⟩
theorem pS_neT {X : Cx} {G : L2.St → Hp → Prop} {a b : Expr} {x y : PySem.Str} {s1 s2 : Prop} {pos : Pos} (hG : GS G) (hm : behindInMarks .NotEq b = false) (ha : PE X a (TS G x s1)) (hb : PE X b (TS G y s2)) : PT X (.Compare a [.NotEq] [b] pos) (TBt G (!decide (x = y)) (s1 ∧ s2)) :=
  pt_weak (pt_cmpR op_ne ha hb hm) fun σ H Q ⟨hg, ⟨h1, h2⟩, z⟩ => ⟨hg, h1, fun H1 S1 => ⟨hG _ _ _ hg S1, h2, fun H2 S2 => ⟨rfl, by
    have e : decide (V.str x = V.str y) = decide (x = y) := by
      by_cases h : x = y
      · rw [h]; simp
      · rw [decide_eq_false h, decide_eq_false (fun z => h (V.str.inj z))]
    rw [e]; exact ⟨_, rfl, z H2 (S1.trans S2)⟩⟩⟩⟩
theorem ps_weak {X : Cx} {st : Stmt} {t t' : L2.TS} (h : PS X st t) (i : ∀ D σ H, t' D σ H → t D σ H) : PS X st t' := ⟨fun pins s σ H D I z => h.run pins s σ H D I (i D σ H z)⟩
theorem Sl.frOf {C : Addr} {H : Hp} {v : V} {n : Nat} {q : Rat} (h : NV C H true v n q) : (Sl.fr n q).ok C H (some v) := by
  obtain ⟨a, rfl, y⟩ := nv_true h
  exact ⟨a, rfl, y⟩
theorem kbnF {K : PySem.W.Frag} {x qual : Str} {st : Stmt} {f : Addr} {fd : FuncData} {ps : List Str} (F : Fun K x qual st f fd) (n : Nat) (ks : List Str) (g : List Value → List Value → List Value) (gV : List V → List V → List V)
    (rel : ∀ {vs : List V} {us : List Value} {zs : List V} {ws : List Value}, Vals vs us → Vals zs ws → Vals (gV vs zs) (g us ws))
    (h : ∀ (doc pm : Value) (an : Option Addr) (kV cdv ct : Value) (us ws : List Value), us.length = n → ws.length = ks.length → bindArgs (PySem.W.fnOf x qual (defArgs st) (defBody st) (defScope st) .none kV doc pm an cdv ct) ⟨us, ks.zip ws⟩ = pure (ps.zip (g us ws))) : KBn K fd ps n ks g gV := by
  obtain ⟨oc, od, kV, doc, pm, an, cdv, ct, osl, rfl, lk, hcd⟩ := F.ex
  exact ⟨fun s us ws _ h1 h2 => .of_eq (h doc pm an kV cdv ct us ws h1 h2), fun a b => rel a b⟩
end SQ
namespace T06
open PySem PySem.Spec PyProof.Rows L2 SF SQ LamX SFT L2H
def gK2 {α : Type} : List α → List α → List α := fun us ws => us ++ ws
theorem rel_gK2 {vs : List V} {us : List Value} {zs : List V} {ws : List Value} (a : Vals vs us) (b : Vals zs ws) : Vals (gK2 vs zs) (gK2 us ws) := by
  unfold gK2
  induction a with
  | nil => exact b
  | cons h t ih => exact .cons h ih
section
variable {P : Program} {w : World} {K : PySem.W.Frag} {mg : Str → Option Value} {base : Heap} {C : Addr}
theorem kOver (T : Tx K mg C) : KBn K T.dOver ["self", "other"] 1 ["other"] gK2 gK2 := kbnF T.FOver 1 ["other"] gK2 gK2 rel_gK2 fun _ _ _ _ _ _ us ws h1 h2 => match us, ws, h1, h2 with | [_], [_], _, _ => rfl
end
section
variable {X : Cx} {C : Addr} {cs bs : Nat → Addr} {E : XK} {G : L2.St → Hp → Prop} {n m : Nat} {q r : Rat} {i : Int} {s1 s2 : Prop} {o a : Expr} {pos apos kpos : Pos}
theorem pz_over {k2 : Bool} {D : Addr} {pl : Sem Bool} (T : Tx X.K X.mg C) (Z : DZ X.K X.mg D) (hx : Passes (L2.CX X.prog X.w) X E) (hr : Room 5 X.A) (hG : GS G) (ho : PE X o (TQ C G true n q s1)) (ha : PE X a (TQ C G k2 m 0 s2))
    (hst : starEach (a :: []) X.env = (false, eval a X.env) :: starEach [] X.env := by rfl) (hpl : (backTo pos (starEach [] X.env)).any (·.1) = false := by rfl)
    (ht : eval (.Call (.Attribute o "over" apos) [a] [] pos) X.env = (do
      let ov ← eval o X.env
      standAt apos.atName
      let (f, first) ← holding [ov] (getMethod ov "over" pl)
      callWith pos f first (backTo pos (starEach (a :: []) X.env)) (backToKw pos (keywordEach [] X.env))) := by rfl) : PE X (.Call (.Attribute o "over" apos) [a] [] pos) (TZ E D G (s1 ∧ s2 ∧ n ≤ LIM ∧ m ≤ LIM)) :=
  pe_weak (pe_meth (pl := pl) (E := E) ho T.rc.cl (mOver T) (zq_Over T Z) hr T.bOver .nil hx (pa_cons ha pa_nil hst) hst hpl ht) fun σ H Q ⟨hg, ⟨h1, h2, h3, h4⟩, z⟩ =>
    ⟨hg, h1, fun v H1 S1 nv => by
      obtain ⟨a, rfl, y'⟩ := nv_true nv
      obtain ⟨⟨dx, e⟩, _⟩ := id y'
      exact ⟨a, dx, _, rfl, e, rf_no _ _ (by decide +kernel) (by decide +kernel), hG _ _ _ hg S1, h2, fun u H2 S2 nu => ⟨a, k2, u, n, m, q, rfl, y'.same S2, nu, h3, h4, fun H3 S3 => z H3 ((S1.trans S2).trans S3)⟩⟩⟩
theorem pz_overK {k2 : Bool} {D : Addr} {pl : Sem Bool} (T : Tx X.K X.mg C) (Z : DZ X.K X.mg D) (hx : Passes (L2.CX X.prog X.w) X E) (hr : Room 5 X.A) (hG : GS G) (ho : PE X o (TQ C G true n q s1)) (ha : PE X a (TQ C G k2 m 0 s2))
    (hall : (backToKw pos (keywordEach [⟨some "other", a, kpos⟩] X.env)).all (·.1.isSome) = true := by rfl) (hks : (backToKw pos (keywordEach [⟨some "other", a, kpos⟩] X.env)).filterMap (·.1) = (["other"] : List Str) := by rfl)
    (hpl : ((backTo pos (starEach [] X.env)).any (·.1) || (backToKw pos (keywordEach [⟨some "other", a, kpos⟩] X.env)).any (·.1.isNone)) = false := by rfl)
    (ht : eval (.Call (.Attribute o "over" apos) [] [⟨some "other", a, kpos⟩] pos) X.env = (do
      let ov ← eval o X.env
      standAt apos.atName
      let (f, first) ← holding [ov] (getMethod ov "over" pl)
      callWith pos f first (backTo pos (starEach [] X.env)) (backToKw pos (keywordEach [⟨some "other", a, kpos⟩] X.env))) := by rfl) :
    PE X (.Call (.Attribute o "over" apos) [] [⟨some "other", a, kpos⟩] pos) (TZ E D G (s1 ∧ s2 ∧ n ≤ LIM ∧ m ≤ LIM)) :=
  pe_weak (pe_methKW (pl := pl) (E := E) (ks := ["other"]) ho T.rc.cl (mOver T) (zq_Over T Z) hr (kOver T) hx (pk_cons ha pk_nil) hall hks hpl ht) fun σ H Q ⟨hg, ⟨h1, h2, h3, h4⟩, z⟩ =>
    ⟨hg, h1, fun v H1 S1 nv => by
      obtain ⟨a, rfl, y'⟩ := nv_true nv
      obtain ⟨⟨dx, e⟩, _⟩ := id y'
      exact ⟨a, dx, _, rfl, e, rf_no _ _ (by decide +kernel) (by decide +kernel), hG _ _ _ hg S1, h2, fun u H2 S2 nu => ⟨rfl, a, k2, u, n, m, q, rfl, y'.same S2, nu, h3, h4, fun H3 S3 => z H3 ((S1.trans S2).trans S3)⟩⟩⟩
theorem pq_overK {k2 : Bool} {pl : Sem Bool} (T : Tx X.K X.mg C) (hr : Room 5 X.A) (hG : GS G) (ho : PE X o (TQ C G true n q s1)) (ha : PE X a (TQ C G k2 m r s2))
    (hall : (backToKw pos (keywordEach [⟨some "other", a, kpos⟩] X.env)).all (·.1.isSome) = true := by rfl) (hks : (backToKw pos (keywordEach [⟨some "other", a, kpos⟩] X.env)).filterMap (·.1) = (["other"] : List Str) := by rfl)
    (hpl : ((backTo pos (starEach [] X.env)).any (·.1) || (backToKw pos (keywordEach [⟨some "other", a, kpos⟩] X.env)).any (·.1.isNone)) = false := by rfl)
    (ht : eval (.Call (.Attribute o "over" apos) [] [⟨some "other", a, kpos⟩] pos) X.env = (do
      let ov ← eval o X.env
      standAt apos.atName
      let (f, first) ← holding [ov] (getMethod ov "over" pl)
      callWith pos f first (backTo pos (starEach [] X.env)) (backToKw pos (keywordEach [⟨some "other", a, kpos⟩] X.env))) := by rfl) :
    PE X (.Call (.Attribute o "over" apos) [] [⟨some "other", a, kpos⟩] pos) (TQ C G true (gM n m) (q / r) (s1 ∧ s2 ∧ r ≠ 0 ∧ gM n m ≤ LIM)) :=
  pe_weak (pe_methKW (pl := pl) (E := E0) (ks := ["other"]) ho T.rc.cl (mOver T) (ok_Over T) hr (kOver T) pass0 (pk_cons ha pk_nil) hall hks hpl ht) fun σ H Q ⟨hg, ⟨h1, h2, h3, h4⟩, z⟩ =>
    ⟨hg, h1, fun v H1 S1 nv => by
      obtain ⟨a, rfl, y'⟩ := nv_true nv
      obtain ⟨⟨dx, e⟩, _⟩ := id y'
      exact ⟨a, dx, _, rfl, e, rf_no _ _ (by decide +kernel) (by decide +kernel), hG _ _ _ hg S1, h2, fun u H2 S2 nu => ⟨rfl, a, k2, u, n, m, q, r, rfl, y'.same S2, nu, h3, h4, fun p H3 S3 rq => z _ H3 ((S1.trans S2).trans S3) rq.nv⟩⟩⟩
theorem pz_power {D : Addr} {pl : Sem Bool} (T : Tx X.K X.mg C) (Z : DZ X.K X.mg D) (hx : Passes (L2.CX X.prog X.w) X E) (hr : Room 5 X.A) (hG : GS G) (ho : PE X o (TQ C G true n 0 s1)) (ha : PE X a (TI G i s2))
    (hst : starEach (a :: []) X.env = (false, eval a X.env) :: starEach [] X.env := by rfl) (hpl : (backTo pos (starEach [] X.env)).any (·.1) = false := by rfl)
    (ht : eval (.Call (.Attribute o "power" apos) [a] [] pos) X.env = (do
      let ov ← eval o X.env
      standAt apos.atName
      let (f, first) ← holding [ov] (getMethod ov "power" pl)
      callWith pos f first (backTo pos (starEach (a :: []) X.env)) (backToKw pos (keywordEach [] X.env))) := by rfl) : PE X (.Call (.Attribute o "power" apos) [a] [] pos) (TZ E D G (s1 ∧ s2 ∧ -20 ≤ i ∧ i < 0 ∧ n ≤ LIM)) :=
  pe_weak (pe_meth (pl := pl) (E := E) ho T.rc.cl (mPower T) (zq_Power T Z) hr T.bPower .nil hx (pa_cons ha pa_nil hst) hst hpl ht) fun σ H Q ⟨hg, ⟨h1, h2, h3, h4, h5⟩, z⟩ =>
    ⟨hg, h1, fun v H1 S1 nv => by
      obtain ⟨a, rfl, y'⟩ := nv_true nv
      obtain ⟨⟨dx, e⟩, _⟩ := id y'
      exact ⟨a, dx, _, rfl, e, rf_no _ _ (by decide +kernel) (by decide +kernel), hG _ _ _ hg S1, h2, fun H2 S2 => ⟨a, n, i, rfl, y'.same S2, h3, h4, h5, fun H3 S3 => z H3 ((S1.trans S2).trans S3)⟩⟩⟩
/-- what is caught, or told, of e: 0 divides if z -/
def cW (z : Prop) [Decidable z] : PySem.Str := if z then "DividedByZero" else "told"
def cX (z : Prop) [Decidable z] (t : PySem.Str) : PySem.Str := if z then "()" else t
theorem pc_both {z : Prop} [Decidable z] {Tb : List (Addr × Str)} {c Pa : Addr} {k : Nat} {params : Arguments} {body : Expr} {scope : Scope} {p lpos : Pos} (T : Tx X.K X.mg C) (Zc : CErr X.K X.mg cs bs) (N : ND X.K) (hgd : X.A.guards = some []) (hr : Room (k + 4) X.A) (hg : Gl X "_law_caught") (TB : TabB X.base X.mg c Pa) (hcode : X.env.code = .ref c) (hmT : (Pa, X.env.qual ++ "<lambda>") ∈ Tb) (hu : ∀ p ∈ Tb, p.1 = Pa → p.2 = X.env.qual ++ "<lambda>")
    (L : LamS X.env.scope scope) (hG : GN G)
    (h0 : z → ∀ (A : Around) (outer : List PySem.Env) (s : Shared) (H : Hp) (E : XK) (f c' : Addr), Room (k + 2) (A.deeper (lamEnv X scope s.heap.objs.size f c')) → PE (lamCx X A outer s H E scope f c') body (TZ E (cs 10) G s1))
    (h1 : ¬ z → ∀ (A : Around) (outer : List PySem.Env) (s : Shared) (H : Hp) (E : XK) (f c' : Addr), Room (k + 2) (A.deeper (lamEnv X scope s.heap.objs.size f c')) → PE (lamCx X A outer s H E scope f c') body (TQ C G true n q s2))
    (hdef : defaultsOf params X.env = ([], []) := by rfl) (hbind : ∀ (q : Str) (cl : List (Str × Addr)) (pm cv ctv : Value), bindArgs (PySem.W.kla_fn "<lambda>" q params body scope cl pm cv ctv) ⟨[], []⟩ = pure [] := by intros; rfl) :
    PE X (.Call (.Name "_law_caught" p) [.Lambda params body scope lpos] [] pos) (TC Tb G (cW z) (cX z (rrepr q)) ((z → s1) ∧ (¬ z → s2 ∧ n ≤ LIM))) := by
  by_cases hz : z
  · have e := pc_fail (G := G) (s := s1) (lam_caught (p := p) (pos := pos) (lpos := lpos) T Zc N hgd hr hg TB hcode hmT hu L (fun A outer s H E f c' hq => h0 hz A outer s H E f c' hq) hdef hbind) hG
    have a1 : cW z = "DividedByZero" := if_pos hz
    have a2 : cX z (rrepr q) = "()" := if_pos hz
    rw [a1, a2]
    exact pe_weak e fun σ H Q ⟨g, t, ⟨k1, _⟩, w⟩ => ⟨g, t, k1 hz, w⟩
  · have e := pc_told (G := G) (s := s2) (lam_caught (p := p) (pos := pos) (lpos := lpos) T Zc N hgd hr hg TB hcode hmT hu L (fun A outer s H E f c' hq => h1 hz A outer s H E f c' hq) hdef hbind) hG
    have a1 : cW z = "told" := if_neg hz
    have a2 : cX z (rrepr q) = rrepr q := if_neg hz
    rw [a1, a2]
    exact pe_weak e fun σ H Q ⟨g, t, ⟨_, k1⟩, w⟩ => ⟨g, t, k1 hz, w⟩
end
end T06

/-! Calls of the class with what is refused, as an error's only end. -/
namespace T06
open PySem PySem.Spec PyProof.Rows L2 SF SQ LamX SFT L2H
section
variable {X : Cx} {C D fI : Addr} {fdI : FuncData} {G : L2.St → Hp → Prop} {E : XK} {a b o : Expr} {k k1 k2 : TK} {n : Nat} {q : Rat} {t t1 t2 : PySem.Str} {s s1 s2 : Prop} {p pos apos kpos kp2 : Pos} {x : PySem.Str}
/-- a name's thing -/
theorem tv_var {i : Nat} (h : PE X a (tVar i)) (hG : GS G) (e : ∀ σ H, G σ H → ∃ v, σ[i]? = some (some v) ∧ Thing C H v t k) : PE X a (TV C G k t True) :=
  pe_weak h fun σ H Q ⟨hg, _, z⟩ => by
    obtain ⟨v, h1, h2⟩ := e σ H hg
    exact ⟨v, h1, z v H (Same.refl H) h2⟩
theorem err_end {v : V} {H H' : Hp} (z : ∀ v H', Same H H' → TxtV C H' v t → ErrG E D v H') (S : Same H H') (h : TxtV C H' v t) : ErrG E D v H' := z v H' S h
/-- Ratio(e, f): e is no integer -/
theorem pw_make1 (T : Tx X.K X.mg C) (O : OE X.prog X.w X.K X.mg X.base "InvalidNumber" D fI fdI) (hx : Passes (L2.CX X.prog X.w) X E) (hr : Room 4 X.A) (hg : Gl X "Ratio") (hG : GS G) (ha : PE X a (TV C G k1 t1 s1)) (hb : PE X b (TV C G k2 t2 s2)) (hk : ∀ i, k1 ≠ .whole i)
    (he : starEach (a :: [b]) X.env = (false, eval a X.env) :: starEach [b] X.env := by rfl) (he2 : starEach (b :: []) X.env = (false, eval b X.env) :: starEach [] X.env := by rfl) (hpl : (backTo pos (starEach [b] X.env)).any (·.1) = false := by rfl) :
    PE X (.Call (.Name "Ratio" p) [a, b] [] pos) (TW E D C G t1 (s1 ∧ s2)) :=
  pe_weak (pe_make (E := E) T.M (zw_ini T O) hr hg T.rc.mgC T.b2 .nil hx (pa_cons ha (pa_cons hb pa_nil he2) he) (by decide) he hpl) fun σ H Q ⟨hg, ⟨h1, h2⟩, z⟩ =>
    ⟨hg, h1, fun v H1 S1 tv => ⟨hG _ _ _ hg S1, h2, fun u H2 S2 tu x dx hx hd hn => by
      have S3 := same_new (o := HO.ins C dx []) (same_new (o := HO.own x) (Same.refl H2) hd) (by rw [upd_ne (Ne.symm hn)]; exact hx)
      have tv' := tv.extN (ExtN.of (S2.trans S3))
      exact ⟨x, v, u, rfl, .inl ⟨tv'.isw hk, z v _ (S1.trans (S2.trans S3)) tv'.txt⟩⟩⟩⟩
/-- Ratio(e, f): e is an integer, f is none -/
theorem pw_make2 {i : Int} (T : Tx X.K X.mg C) (O : OE X.prog X.w X.K X.mg X.base "InvalidNumber" D fI fdI) (hx : Passes (L2.CX X.prog X.w) X E) (hr : Room 4 X.A) (hg : Gl X "Ratio") (hG : GS G) (ha : PE X a (TV C G (.whole i) t1 s1)) (hb : PE X b (TV C G k2 t2 s2)) (hk : ∀ i, k2 ≠ .whole i)
    (he : starEach (a :: [b]) X.env = (false, eval a X.env) :: starEach [b] X.env := by rfl) (he2 : starEach (b :: []) X.env = (false, eval b X.env) :: starEach [] X.env := by rfl) (hpl : (backTo pos (starEach [b] X.env)).any (·.1) = false := by rfl) :
    PE X (.Call (.Name "Ratio" p) [a, b] [] pos) (TW E D C G t2 (s1 ∧ s2)) :=
  pe_weak (pe_make (E := E) T.M (zw_ini T O) hr hg T.rc.mgC T.b2 .nil hx (pa_cons ha (pa_cons hb pa_nil he2) he) (by decide) he hpl) fun σ H Q ⟨hg, ⟨h1, h2⟩, z⟩ =>
    ⟨hg, h1, fun v H1 S1 tv => ⟨hG _ _ _ hg S1, h2, fun u H2 S2 tu x dx hx hd hn => by
      have S3 := same_new (o := HO.ins C dx []) (same_new (o := HO.own x) (Same.refl H2) hd) (by rw [upd_ne (Ne.symm hn)]; exact hx)
      have tu' := tu.extN (ExtN.of S3)
      exact ⟨x, v, u, rfl, .inr ⟨i, tv.1, tu'.isw hk, z u _ (S1.trans (S2.trans S3)) tu'.txt⟩⟩⟩⟩
/-- Ratio(e): e is no integer -/
theorem pw_make (T : Tx X.K X.mg C) (O : OE X.prog X.w X.K X.mg X.base "InvalidNumber" D fI fdI) (hx : Passes (L2.CX X.prog X.w) X E) (hr : Room 4 X.A) (hg : Gl X "Ratio") (ha : PE X a (TV C G k1 t1 s1)) (hk : ∀ i, k1 ≠ .whole i)
    (he : starEach (a :: []) X.env = (false, eval a X.env) :: starEach [] X.env := by rfl) (hpl : (backTo pos (starEach [] X.env)).any (·.1) = false := by rfl) :
    PE X (.Call (.Name "Ratio" p) [a] [] pos) (TW E D C G t1 s1) :=
  pe_weak (pe_make (E := E) T.M (zw_ini T O) hr hg T.rc.mgC T.b1 T.vv hx (pa_cons ha pa_nil he) (by decide) he hpl) fun σ H Q ⟨hg, h1, z⟩ =>
    ⟨hg, h1, fun v H1 S1 tv => fun x dx hx hd hn => by
      have S3 := same_new (o := HO.ins C dx []) (same_new (o := HO.own x) (Same.refl H1) hd) (by rw [upd_ne (Ne.symm hn)]; exact hx)
      have tv' := tv.extN (ExtN.of S3)
      exact ⟨x, v, .int 1, rfl, .inl ⟨tv'.isw hk, z v _ (S1.trans S3) tv'.txt⟩⟩⟩
/-- o.over(e): e is no number -/
theorem pw_over {pl : Sem Bool} (T : Tx X.K X.mg C) (O : OE X.prog X.w X.K X.mg X.base "InvalidNumber" D fI fdI) (hx : Passes (L2.CX X.prog X.w) X E) (hr : Room 3 X.A) (hG : GS G) (ho : PE X o (TQ C G true n q s1)) (ha : PE X a (TV C G .other t s2))
    (hst : starEach (a :: []) X.env = (false, eval a X.env) :: starEach [] X.env := by rfl) (hpl : (backTo pos (starEach [] X.env)).any (·.1) = false := by rfl)
    (ht : eval (.Call (.Attribute o "over" apos) [a] [] pos) X.env = (do
      let ov ← eval o X.env
      standAt apos.atName
      let (f, first) ← holding [ov] (getMethod ov "over" pl)
      callWith pos f first (backTo pos (starEach (a :: []) X.env)) (backToKw pos (keywordEach [] X.env))) := by rfl) : PE X (.Call (.Attribute o "over" apos) [a] [] pos) (TW E D C G t (s1 ∧ s2)) :=
  pe_weak (pe_meth (pl := pl) (E := E) ho T.rc.cl (mOver T) (zw_Over T O) hr T.bOver .nil hx (pa_cons ha pa_nil hst) hst hpl ht) fun σ H Q ⟨hg, ⟨h1, h2⟩, z⟩ =>
    ⟨hg, h1, fun v H1 S1 nv => by
      obtain ⟨a, rfl, y'⟩ := nv_true nv
      obtain ⟨⟨dx, e⟩, _⟩ := id y'
      exact ⟨a, dx, _, rfl, e, rf_no _ _ (by decide +kernel) (by decide +kernel), hG _ _ _ hg S1, h2, fun u H2 S2 tu => ⟨.ref a, u, rfl, tu.1, z u H2 (S1.trans S2) tu.txt⟩⟩⟩
theorem pw_overK {pl : Sem Bool} (T : Tx X.K X.mg C) (O : OE X.prog X.w X.K X.mg X.base "InvalidNumber" D fI fdI) (hx : Passes (L2.CX X.prog X.w) X E) (hr : Room 3 X.A) (hG : GS G) (ho : PE X o (TQ C G true n q s1)) (ha : PE X a (TV C G .other t s2))
    (hall : (backToKw pos (keywordEach [⟨some "other", a, kpos⟩] X.env)).all (·.1.isSome) = true := by rfl) (hks : (backToKw pos (keywordEach [⟨some "other", a, kpos⟩] X.env)).filterMap (·.1) = (["other"] : List PySem.Str) := by rfl)
    (hpl : ((backTo pos (starEach [] X.env)).any (·.1) || (backToKw pos (keywordEach [⟨some "other", a, kpos⟩] X.env)).any (·.1.isNone)) = false := by rfl)
    (ht : eval (.Call (.Attribute o "over" apos) [] [⟨some "other", a, kpos⟩] pos) X.env = (do
      let ov ← eval o X.env
      standAt apos.atName
      let (f, first) ← holding [ov] (getMethod ov "over" pl)
      callWith pos f first (backTo pos (starEach [] X.env)) (backToKw pos (keywordEach [⟨some "other", a, kpos⟩] X.env))) := by rfl) :
    PE X (.Call (.Attribute o "over" apos) [] [⟨some "other", a, kpos⟩] pos) (TW E D C G t (s1 ∧ s2)) :=
  pe_weak (pe_methKW (pl := pl) (E := E) (ks := ["other"]) ho T.rc.cl (mOver T) (zw_Over T O) hr (kOver T) hx (pk_cons ha pk_nil) hall hks hpl ht) fun σ H Q ⟨hg, ⟨h1, h2⟩, z⟩ =>
    ⟨hg, h1, fun v H1 S1 nv => by
      obtain ⟨a, rfl, y'⟩ := nv_true nv
      obtain ⟨⟨dx, e⟩, _⟩ := id y'
      exact ⟨a, dx, _, rfl, e, rf_no _ _ (by decide +kernel) (by decide +kernel), hG _ _ _ hg S1, h2, fun u H2 S2 tu => ⟨rfl, .ref a, u, rfl, tu.1, z u H2 (S1.trans S2) tu.txt⟩⟩⟩
/-- what power refuses -/
def NoExp : TK → Prop
  | .whole i => i < -20 ∨ i > 20
  | _ => True
theorem noExp {H : Hp} {v : V} (h : Thing C H v t k) (hk : NoExp k) : IsWh C H v false ∨ ∃ e, v = .int e ∧ (e < -20 ∨ e > 20) := by
  cases k with
  | whole i => exact .inr ⟨i, h.1, hk⟩
  | num n q => exact .inl (h.isw (fun i e => by cases e))
  | other => exact .inl (h.isw (fun i e => by cases e))
theorem pw_power {pl : Sem Bool} (T : Tx X.K X.mg C) (O : OE X.prog X.w X.K X.mg X.base "InvalidCount" D fI fdI) (hx : Passes (L2.CX X.prog X.w) X E) (hr : Room 3 X.A) (hG : GS G) (hk : NoExp k) (ho : PE X o (TQ C G true n q s1)) (ha : PE X a (TV C G k t s2))
    (hst : starEach (a :: []) X.env = (false, eval a X.env) :: starEach [] X.env := by rfl) (hpl : (backTo pos (starEach [] X.env)).any (·.1) = false := by rfl)
    (ht : eval (.Call (.Attribute o "power" apos) [a] [] pos) X.env = (do
      let ov ← eval o X.env
      standAt apos.atName
      let (f, first) ← holding [ov] (getMethod ov "power" pl)
      callWith pos f first (backTo pos (starEach (a :: []) X.env)) (backToKw pos (keywordEach [] X.env))) := by rfl) : PE X (.Call (.Attribute o "power" apos) [a] [] pos) (TW E D C G t (s1 ∧ s2)) :=
  pe_weak (pe_meth (pl := pl) (E := E) ho T.rc.cl (mPower T) (zw_Power T O) hr T.bPower .nil hx (pa_cons ha pa_nil hst) hst hpl ht) fun σ H Q ⟨hg, ⟨h1, h2⟩, z⟩ =>
    ⟨hg, h1, fun v H1 S1 nv => by
      obtain ⟨a, rfl, y'⟩ := nv_true nv
      obtain ⟨⟨dx, e⟩, _⟩ := id y'
      exact ⟨a, dx, _, rfl, e, rf_no _ _ (by decide +kernel) (by decide +kernel), hG _ _ _ hg S1, h2, fun u H2 S2 tu => ⟨.ref a, u, rfl, noExp tu hk, z u H2 (S1.trans S2) tu.txt⟩⟩⟩
theorem kPower (T : Tx X.K X.mg C) : KBn X.K T.dPower ["self", "exponent"] 1 ["exponent"] gK2 gK2 := kbnF T.FPower 1 ["exponent"] gK2 gK2 rel_gK2 fun _ _ _ _ _ _ us ws h1 h2 => match us, ws, h1, h2 with | [_], [_], _, _ => rfl
theorem pw_powerK {pl : Sem Bool} (T : Tx X.K X.mg C) (O : OE X.prog X.w X.K X.mg X.base "InvalidCount" D fI fdI) (hx : Passes (L2.CX X.prog X.w) X E) (hr : Room 3 X.A) (hG : GS G) (hk : NoExp k) (ho : PE X o (TQ C G true n q s1)) (ha : PE X a (TV C G k t s2))
    (hall : (backToKw pos (keywordEach [⟨some "exponent", a, kpos⟩] X.env)).all (·.1.isSome) = true := by rfl) (hks : (backToKw pos (keywordEach [⟨some "exponent", a, kpos⟩] X.env)).filterMap (·.1) = (["exponent"] : List PySem.Str) := by rfl)
    (hpl : ((backTo pos (starEach [] X.env)).any (·.1) || (backToKw pos (keywordEach [⟨some "exponent", a, kpos⟩] X.env)).any (·.1.isNone)) = false := by rfl)
    (ht : eval (.Call (.Attribute o "power" apos) [] [⟨some "exponent", a, kpos⟩] pos) X.env = (do
      let ov ← eval o X.env
      standAt apos.atName
      let (f, first) ← holding [ov] (getMethod ov "power" pl)
      callWith pos f first (backTo pos (starEach [] X.env)) (backToKw pos (keywordEach [⟨some "exponent", a, kpos⟩] X.env))) := by rfl) :
    PE X (.Call (.Attribute o "power" apos) [] [⟨some "exponent", a, kpos⟩] pos) (TW E D C G t (s1 ∧ s2)) :=
  pe_weak (pe_methKW (pl := pl) (E := E) (ks := ["exponent"]) ho T.rc.cl (mPower T) (zw_Power T O) hr (kPower T) hx (pk_cons ha pk_nil) hall hks hpl ht) fun σ H Q ⟨hg, ⟨h1, h2⟩, z⟩ =>
    ⟨hg, h1, fun v H1 S1 nv => by
      obtain ⟨a, rfl, y'⟩ := nv_true nv
      obtain ⟨⟨dx, e⟩, _⟩ := id y'
      exact ⟨a, dx, _, rfl, e, rf_no _ _ (by decide +kernel) (by decide +kernel), hG _ _ _ hg S1, h2, fun u H2 S2 tu => ⟨rfl, .ref a, u, rfl, noExp tu hk, z u H2 (S1.trans S2) tu.txt⟩⟩⟩
/-- Ratio.read(e): e is no string -/
theorem pw_read {pl : Sem Bool} {mc : Value} {pc g : Addr} (T : Tx X.K X.mg C) (O : OE X.prog X.w X.K X.mg X.base "InvalidText" D fI fdI) (kS : PySem.W.kitOne X.K (.ref C) (.type "str") = some false) (hx : Passes (L2.CX X.prog X.w) X E) (hr : Room 3 X.A)
    (ho : PE X o (tC (.ref C))) (r : ClX.CRead X.K C mc) (cm : ClX.CMet X.K C mc "read" pc T.aRd) (ha : PE X a (TV C G k t s)) (hk : ∀ v H, Thing C H v t k → (∃ T, Dec H v T ∧ T ≠ "str") ∨ IsIns C H v)
    (hst : starEach (a :: []) X.env = (false, eval a X.env) :: starEach [] X.env := by rfl) (hpl : (backTo pos (starEach [] X.env)).any (·.1) = false := by rfl)
    (ht : eval (.Call (.Attribute o "read" apos) (a :: []) [] pos) X.env = (do
      let ov ← eval o X.env
      standAt apos.atName
      let (f, first) ← holding [ov] (getMethod ov "read" pl)
      callWith pos f first (backTo pos (starEach (a :: []) X.env)) (backToKw pos (keywordEach [] X.env))) := by rfl) : PE X (.Call (.Attribute o "read" apos) [a] [] pos) (TW E D C G t s) :=
  pe_weak (ClX.pe_cmeth (E := E) ho r cm ((zw_Rd T O kS).raw T.bRd .nil) hr hx (pa_cons ha pa_nil hst) hst hpl ht) fun σ H Q ⟨hg, h1, z⟩ =>
    ⟨rfl, hg, h1, fun v H1 S1 tv => ⟨v, rfl, hk v H1 tv, z v H1 S1 tv.txt⟩⟩
/-- o ** i -/
theorem pw_pow {i : Int} (T : Tx X.K X.mg C) (O : OE X.prog X.w X.K X.mg X.base "InvalidCount" D fI fdI) (hx : Passes (L2.CX X.prog X.w) X E) (hr : Room 4 X.A) (hG : GS G) (hi : i < -20 ∨ i > 20) (htx : ∀ H, TxtV C H (.int i) t) (ho : PE X o (TQ C G true n q s1)) (ha : PE X a (TI G i s2)) :
    PE X (.BinOp o .Pow a pos) (TW E D C G t (s1 ∧ s2)) :=
  pe_weak (pe_op (op_OB (E := E) (oPow T) (zw_Pow T O) T.bPow hr hx) ho ha) fun σ H Q ⟨hg, ⟨h1, h2⟩, z⟩ =>
    ⟨hg, h1, fun v H1 S1 nv => by
      obtain ⟨a, rfl, y'⟩ := nv_true nv
      exact ⟨hG _ _ _ hg S1, h2, fun H2 S2 => ⟨(y'.same S2).ins, .inr ⟨i, rfl⟩, a, n, q, i, rfl, y'.same S2, hi, z _ H2 (S1.trans S2) (htx H2)⟩⟩⟩
def gBT {α : Type} (vs _ds zs : List α) : List α := match zs with
  | [b, t] => vs ++ [t, b]
  | _ => vs
theorem rel_BT {vs ds zs : List V} {us its ws : List Value} (a : Vals vs us) (_b : Vals ds its) (c : Vals zs ws) : Vals (gBT vs ds zs) (gBT us its ws) := by
  cases c with
  | nil => exact a
  | cons r c1 =>
    cases c1 with
    | nil => exact a
    | cons r2 c2 =>
      cases c2 with
      | nil => exact a.append (.cons r2 (.cons r .nil))
      | cons _ _ => exact a
theorem kIni (T : Tx X.K X.mg C) : ∃ g : List Value → List Value → List Value, KBn X.K T.dIni ["self", "top", "bottom"] 1 ["bottom", "top"] g (fun vs zs => gBT vs [V.int 1] zs) := by
  obtain ⟨i2, k2⟩ := T.FIni.kbindsD (ps := ["self", "top", "bottom"]) 1 ["bottom", "top"] (fun vs ds zs => gBT vs ds zs) (by simp) rel_BT (fun T kV doc pm an cdv ct us its ws h1 h2 h3 => match us, its, ws, h1, h2, h3 with | [_], [_], [_, _], _, _, _ => ⟨_, rfl, rfl⟩)
  exact ⟨_, k2⟩
/-- Ratio(bottom=f, top=e) : the first in order that is no integer -/
theorem pw_makeK1 (T : Tx X.K X.mg C) (O : OE X.prog X.w X.K X.mg X.base "InvalidNumber" D fI fdI) (hx : Passes (L2.CX X.prog X.w) X E) (hr : Room 4 X.A) (hg : Gl X "Ratio") (hG : GS G) (ha : PE X a (TV C G k1 t1 s1)) (hb : PE X b (TV C G k2 t2 s2)) (hk : ∀ i, k1 ≠ .whole i)
    (hall : (backToKw pos (keywordEach [⟨some "bottom", b, kpos⟩, ⟨some "top", a, kp2⟩] X.env)).all (·.1.isSome) = true := by rfl) (hks : (backToKw pos (keywordEach [⟨some "bottom", b, kpos⟩, ⟨some "top", a, kp2⟩] X.env)).filterMap (·.1) = (["bottom", "top"] : List PySem.Str) := by rfl)
    (hpl : ((backTo pos (starEach [] X.env)).any (·.1) || (backToKw pos (keywordEach [⟨some "bottom", b, kpos⟩, ⟨some "top", a, kp2⟩] X.env)).any (·.1.isNone)) = false := by rfl) :
    PE X (.Call (.Name "Ratio" p) [] [⟨some "bottom", b, kpos⟩, ⟨some "top", a, kp2⟩] pos) (TW E D C G t1 (s1 ∧ s2)) := by
  obtain ⟨g, hK⟩ := kIni T
  refine pe_weak (pe_makeK0 (E := E) T.M (zw_ini T O) hr hg T.rc.mgC hK hx (pk_cons hb (pk_cons ha pk_nil)) hall hks (by decide) hpl) fun σ H Q ⟨hg, ⟨h1, h2⟩, z⟩ =>
    ⟨hg, h2, fun u H1 S1 tu => ⟨hG _ _ _ hg S1, h1, fun v H2 S2 tv => ⟨rfl, rfl, fun x dx hx hd hn => ?_⟩⟩⟩
  have S3 := same_new (o := HO.ins C dx []) (same_new (o := HO.own x) (Same.refl H2) hd) (by rw [upd_ne (Ne.symm hn)]; exact hx)
  have tv' := tv.extN (ExtN.of S3)
  exact ⟨x, v, u, rfl, .inl ⟨tv'.isw hk, z v _ (S1.trans (S2.trans S3)) tv'.txt⟩⟩
theorem pw_makeK2 {i : Int} (T : Tx X.K X.mg C) (O : OE X.prog X.w X.K X.mg X.base "InvalidNumber" D fI fdI) (hx : Passes (L2.CX X.prog X.w) X E) (hr : Room 4 X.A) (hg : Gl X "Ratio") (hG : GS G) (ha : PE X a (TV C G (.whole i) t1 s1)) (hb : PE X b (TV C G k2 t2 s2)) (hk : ∀ i, k2 ≠ .whole i)
    (hall : (backToKw pos (keywordEach [⟨some "bottom", b, kpos⟩, ⟨some "top", a, kp2⟩] X.env)).all (·.1.isSome) = true := by rfl) (hks : (backToKw pos (keywordEach [⟨some "bottom", b, kpos⟩, ⟨some "top", a, kp2⟩] X.env)).filterMap (·.1) = (["bottom", "top"] : List PySem.Str) := by rfl)
    (hpl : ((backTo pos (starEach [] X.env)).any (·.1) || (backToKw pos (keywordEach [⟨some "bottom", b, kpos⟩, ⟨some "top", a, kp2⟩] X.env)).any (·.1.isNone)) = false := by rfl) :
    PE X (.Call (.Name "Ratio" p) [] [⟨some "bottom", b, kpos⟩, ⟨some "top", a, kp2⟩] pos) (TW E D C G t2 (s1 ∧ s2)) := by
  obtain ⟨g, hK⟩ := kIni T
  refine pe_weak (pe_makeK0 (E := E) T.M (zw_ini T O) hr hg T.rc.mgC hK hx (pk_cons hb (pk_cons ha pk_nil)) hall hks (by decide) hpl) fun σ H Q ⟨hg, ⟨h1, h2⟩, z⟩ =>
    ⟨hg, h2, fun u H1 S1 tu => ⟨hG _ _ _ hg S1, h1, fun v H2 S2 tv => ⟨rfl, rfl, fun x dx hx hd hn => ?_⟩⟩⟩
  have S3 := same_new (o := HO.ins C dx []) (same_new (o := HO.own x) (Same.refl H2) hd) (by rw [upd_ne (Ne.symm hn)]; exact hx)
  have tu' := tu.extN (ExtN.of (S2.trans S3))
  exact ⟨x, v, u, rfl, .inr ⟨i, tv.1, tu'.isw hk, z u _ (S1.trans (S2.trans S3)) tu'.txt⟩⟩
end
end T06

/-! _law_thing. -/
namespace T06
open PySem PySem.Spec PyProof.Rows L2 SF SQ LamX SFT L2H
theorem tt1_len (y : PySem.Str) : (tupleText [y]).length = y.length + 3 := by
  have h := join_length_add [y] (by simp)
  have e : piled [y] = y.length + 2 := by simp [piled]
  have h1 : ("(" : PySem.Str).length = 1 := rfl
  have h2 : (Str.ofString ",)").length = 2 := rfl
  unfold tupleText
  rw [Str.length_append, Str.length_append, h1]
  show 1 + (Str.join ", " [y]).length + (Str.ofString ",)").length = y.length + 3
  rw [h2]
  omega
/-- bounds of a thing -/
def KB : TK → Prop
  | .whole i => -Big < i ∧ i < Big
  | .num n q => n ≤ 8
  | .other => True
theorem okD_int {i : Int} (h0 : -Big < i) (h1 : i < Big) : OkD (.int i) := by
  have hb := big_pn h0 h1
  have hl : i.natAbs.log2 < 1920 := by
    have := PySem.Flt.log2_lt_of (k := PN) (by decide) hb
    unfold PN at this
    omega
  have hx := int_text_length_le (k := PN) (a := i) (by decide) (PySem.Flt.log2_lt_of (k := PN) (by decide) hb)
  refine ⟨?_, ?_, ?_⟩
  · simp only [PyData.showable, PyData.showableAll, Bool.and_true, decide_eq_true_eq]
    exact hl
  · simp [PyData.depth, PyData.depthAll]
  · have l5 := line5
    simp only [PyData.shown, PyData.shownAll]
    rw [tt1_len, PySem.ofString_length]
    unfold PN at hx
    rw [sizeLine_eq]
    omega
theorem thing_int {C : Addr} {i : Int} (h0 : -Big < i) (h1 : i < Big) (H : Hp) : Thing C H (.int i) (PyData.tuple [.int i]).shown (.whole i) := ⟨rfl, txt_of (.int i) (okD_int h0 h1)⟩
theorem ok_int {i : Int} : PyData.strOk (PyData.tuple [.int i]).shown = true := by
  show PyData.strOk (tupleText [Str.ofString (toString i)]) = true
  unfold tupleText
  refine ok_app (ok_app (by decide +kernel) ?_) (ok_of _)
  show PyData.strOk (Str.join ", " [Str.ofString (toString i)]) = true
  exact ok_of _
theorem thing_non {C : Addr} (H : Hp) : Thing C H .non (PyData.tuple [.none]).shown .other := ⟨⟨"NoneType", .non, rfl⟩, txt_of .non ⟨rfl, by decide +kernel, by decide +kernel⟩⟩
theorem thing_bl {C : Addr} (b : Bool) (H : Hp) : Thing C H (.bl b) (PyData.tuple [.bool b]).shown .other := ⟨⟨"bool", .bl b, rfl⟩, txt_of (.bl b) (by cases b <;> exact ⟨rfl, by decide +kernel, by decide +kernel⟩)⟩
theorem thing_str {C : Addr} (x : PySem.Str) (o : OkD (.str x)) (H : Hp) : Thing C H (.str x) (PyData.tuple [.str x]).shown .other := ⟨⟨"str", .str x, rfl⟩, txt_of (.str x) o⟩
def KBs (ks : List (TK × PySem.Str)) : Prop := ∀ k ∈ ks, KB k.1
section
variable {P : Program} {w : World} {K : PySem.W.Frag} {mg : Str → Option Value} {base : Heap} {C : Addr}
def spThing (C : Addr) : Sp := fun vs H Q _ => ∃ a : Addr, vs = [.ref a] ∧ SrcAt H a ∧ ∀ v k t H', KB k → PyData.strOk t = true → Thing C (del H' a) v t k → SrcAt H' a → But a H H' → Q v H'
def TG (a : Addr) : L2.St → Hp → Prop := fun _ H => SrcAt H a
theorem but_del {a : Addr} {H H' : Hp} (k : But a H H') : Same (del H a) (del H' a) := fun b o e => by
  by_cases h : b = a
  · subst h
    rw [del_same] at e
    cases e
  · rw [del_ne h] at e ⊢
    exact k b o h e
theorem ok_thing (T : Tx K mg C) : FnOk P w K mg base CX0 4 T.aThing T.dThing ["_law_source_here"] (spThing C) := by
  have GD : FnOk P w K mg base CX0 1 T.aDraw T.dDraw ["_law_source_here", "_law_many"] spDraw := ok_draw T.FDraw T.blt
  have GW : FnOk P w K mg base CX0 2 T.aWho T.dWho ["_law_source_here"] spWhole := ok_whole T.FWho T.FDraw T.bDraw T.gDraw T.blt
  refine T.FThing.ok scThing (fun vs H Q E h => ?_) (fun cdv A outer s H vs Q E hr h => ?_)
  · obtain ⟨a, rfl, _⟩ := h
    rfl
  · obtain ⟨a, rfl, hs, q⟩ := h
    have hr1 := hr.mono (show 1 ≤ 3 by decide)
    have hr2 := hr.mono (show 2 ≤ 3 by decide)
    let G : L2.St → Hp → Prop := TG a
    have hG : GS G := fun σ H H' h S => SrcAt.same h S
    have hA : GA a G := fun σ H h => h
    refine ⟨_, PSs.nox (pss_cons (ps_set (i := 1) scThing.nd rfl (.inl rfl) (pe_call GD hr1 (by rfl) T.gDraw T.FDraw.kp T.bDraw .nil pass0 (pa_cons (pv 0) (pa_cons pe_int pa_nil))))
      (pss_cons (ps_if (pt_cmpR op_eq (pv 1) pe_int (nomark _)) (pss_one (ps_ret (pe_call GW hr2 (by rfl) T.gWho T.FWho.kp T.bWho .nil pass0 (pa_cons (pv 0) pa_nil)))) pss_nil)
      (pss_cons (ps_if (pt_cmpR op_eq (pv 1) pe_int (nomark _)) (pss_one (ps_ret (pe_ix ix_list (pe_lst (pa_cons pe_int (pa_cons pe_int (pa_cons (pe_un un_neg pe_int) (pa_cons pe_int (pa_cons pe_int pa_nil)))))) (pe_call GD hr1 (by rfl) T.gDraw T.FDraw.kp T.bDraw .nil pass0 (pa_cons (pv 0) (pa_cons pe_int pa_nil))) (fun _ _ => rfl)))) pss_nil)
      (pss_cons (ps_set (i := 2) scThing.nd rfl (.inl rfl) (pe_lst (td_cons (R := fun _ => True) hG (td_lit (k := .other) pe_non (fun _ _ _ q => q) (thing_non))
        (td_cons hG (td_lit (k := .other) pe_bl (fun _ _ _ q => q) (thing_bl true))
        (td_cons hG (td_lit (k := .other) pe_bl (fun _ _ _ q => q) (thing_bl false))
        (td_cons hG (td_lit (k := .other) pe_str (fun _ _ _ q => q) (thing_str _ ⟨rfl, by decide +kernel, by decide +kernel⟩))
        (td_cons hG (td_lit (k := .other) pe_str (fun _ _ _ q => q) (thing_str _ ⟨rfl, by decide +kernel, by decide +kernel⟩))
        (td_cons hG (td_lit (k := .other) pe_str (fun _ _ _ q => q) (thing_str _ ⟨rfl, by decide +kernel, by decide +kernel⟩))
        (td_cons hG (td_tup (ds := []) hA pa_nil (fun _ _ _ q => q) (fun _ => .nil) (by decide) ⟨rfl, by decide +kernel, by decide +kernel⟩)
        (td_cons hG (td_tup (ds := [.int 1]) hA (pa_cons pe_int pa_nil) (fun _ _ _ q => q) (fun _ => .cons (.int 1) .nil) (by decide) ⟨rfl, by decide +kernel, by decide +kernel⟩)
        (td_cons hG (td_lst (ds := [.int 1]) hA (pa_cons pe_int pa_nil) (fun _ _ _ q => q) (fun _ => .cons (.int 1) .nil) (by decide) ⟨rfl, by decide +kernel, by decide +kernel⟩)
        (td_cons hG (td_dct0 hA ⟨rfl, by decide +kernel, by decide +kernel⟩)
        (td_cons hG (td_num (n := 8) hA hG (pq_make1 (G := G) (n := 8) T.M (ok_init T) T.b1 T.vv hr (by rfl) T.rc.mgC (pI_int (i := 3)) (by decide) (by decide)) ⟨trivial, by decide⟩ (by decide) (by decide +kernel))
        (td_cons hG (td_num (n := 8) hA hG (pq_make (G := G) (n := 8) T.M (ok_init T) T.b2 hr (by rfl) T.rc.mgC hG (pI_int (i := 1)) (pI_int (i := 2)) (by decide) (by decide)) ⟨trivial, trivial, by decide, by decide⟩ (by decide) (by decide +kernel))
        (td_cons hG (td_num (n := 8) hA hG (pq_make1 (G := G) (n := 8) T.M (ok_init T) T.b1 T.vv hr (by rfl) T.rc.mgC (pI_int (i := 0)) (by decide) (by decide)) ⟨trivial, by decide⟩ (by decide) (by decide +kernel))
        (td_cons hG (td_tup (ds := [.int 1, .int 2]) hA (pa_cons pe_int (pa_cons pe_int pa_nil)) (fun _ _ _ q => q) (fun _ => .cons (.int 1) (.cons (.int 2) .nil)) (by decide) ⟨rfl, by decide +kernel, by decide +kernel⟩)
        (td_cons hG (td_dct (kvs := [(.inr "top", .int 1)]) (D := [(.str "top", .int 1)]) hA (pps_cons pe_str pe_int pps_nil) (fun _ _ _ q => q) (fun _ => .cons (.int 1) .nil) ⟨rfl, by decide +kernel, by decide +kernel⟩)
        td_nil)))))))))))))))))
      (pss_one (ps_ret (pe_ix ix_list (pv 2) (pe_call GD hr1 (by rfl) T.gDraw T.FDraw.kp T.bDraw .nil pass0 (pa_cons (pv 0) (pa_cons pe_int pa_nil))) (fun _ _ => rfl)))))))), ?_⟩
    refine ⟨_, rfl, a, 3, rfl, (by decide), (by decide), hs, fun d H1 d0 d1 s1 k1 => ?_⟩
    refine ⟨_, rfl, rfl, _, rfl, ?_⟩
    refine ite2 (fun _ => ?_) (fun _ => ?_)
    · exact ⟨_, rfl, a, rfl, s1, fun n H2 n0 n1 s2 k2 => q _ (.whole n) _ _ ⟨n0, n1⟩ ok_int (thing_int n0 n1 _) s2 (k1.trans k2)⟩
    refine ⟨_, rfl, rfl, _, rfl, ?_⟩
    refine ite2 (fun _ => ?_) (fun _ => ?_)
    · refine ⟨_, rfl, (by show 5 ≤ sizeLine; decide), fun p np => ?_⟩
      have pa := s1.ne np
      refine ⟨_, rfl, a, 5, rfl, (by decide), (by decide), s1.same (same_new (Same.refl _) np), fun e H2 e0 e1 s2 k2 => ?_⟩
      have ep : H2 p = some (.lst [.int 0, .int 1, .int (-1), .int 2, .int 0]) := k2 _ _ (Ne.symm pa) upd_same
      have kk : But a H H2 := (k1.new np).trans k2
      obtain ⟨m, rfl⟩ := Int.eq_ofNat_of_zero_le e0
      have hm : m < 5 := by omega
      have fin : ∀ i : Int, -Big < i → i < Big → [V.int 0, V.int 1, V.int (-1), V.int 2, V.int 0][m]? = some (.int i) → rIxL K (.ref p) (.int (m : Int)) H2 Q := fun i h0 h1 h2 => ⟨p, _, _, .int i, rfl, rfl, SqL.of ep, atI_nat h2, q _ (.whole i) _ _ ⟨h0, h1⟩ ok_int (thing_int h0 h1 _) s2 kk⟩
      match m, hm, fin with
      | 0, _, fin => exact fin 0 (by decide) (by decide) rfl
      | 1, _, fin => exact fin 1 (by decide) (by decide) rfl
      | 2, _, fin => exact fin (-1) (by decide) (by decide) rfl
      | 3, _, fin => exact fin 2 (by decide) (by decide) rfl
      | 4, _, fin => exact fin 0 (by decide) (by decide) rfl
    · refine ⟨s1, fun vs H2 S2 th => ⟨?_, fun p np => ?_⟩⟩
      · rw [th.len]
        decide
      · have s2 := s1.same S2
        have pa := s2.ne np
        refine ⟨_, rfl, _, rfl, a, 15, rfl, (by decide), (by decide), s2.same (same_new (Same.refl _) np), fun e H3 e0 e1 s3 k3 => ?_⟩
        have ep : H3 p = some (.lst vs) := k3 _ _ (Ne.symm pa) upd_same
        have kk : But a H H3 := ((k1.same S2).new np).trans k3
        obtain ⟨m, rfl⟩ := Int.eq_ofNat_of_zero_le e0
        have th3 := th.same ((same_del (same_new (o := HO.lst vs) (Same.refl H2) np)).trans (but_del k3))
        obtain ⟨v, ⟨k, t⟩, e1', e2', x, _⟩ := th3.at_ (i := m) (by show m < 15; omega)
        refine ⟨p, _, _, v, rfl, rfl, SqL.of ep, atI_nat e1', q v k t H3 ?_ ?_ x s3 kk⟩
        · have hm := List.mem_of_getElem? e2'
          simp only [List.mem_cons, Prod.mk.injEq, List.not_mem_nil, or_false] at hm
          rcases hm with h | h | h | h | h | h | h | h | h | h | h | h | h | h | h <;> (rw [h.1]; first | exact trivial | exact Nat.le_refl 8)
        · have hm := List.mem_of_getElem? e2'
          simp only [List.mem_cons, Prod.mk.injEq, List.not_mem_nil, or_false] at hm
          rcases hm with h | h | h | h | h | h | h | h | h | h | h | h | h | h | h <;> (rw [h.2]; decide +kernel)
end
end T06

/-! What is due. -/
namespace T06
open PySem PySem.Spec PyProof.Rows L2 SF SQ LamX SFT L2H
section
variable {P : Program} {w : World} {K : PySem.W.Frag} {mg : Str → Option Value} {base : Heap} {C : Addr}
theorem ok_LWh (T : Tx K mg C) : FnOk P w K mg base CX0 1 T.aLWh T.dLWh ["_law_thing_here"] (spIsW C) := by
  refine T.FLWh.ok scLWh (fun vs H Q E h => ?_) (fun cdv A outer s H vs Q E hr h => ?_)
  · obtain ⟨v, rfl, _⟩ := h
    rfl
  · obtain ⟨v, rfl, h⟩ := h
    refine ⟨_, (pss_one (ps_ret (pe_and (pe_callB call_isi (by rfl) T.rc.isi (by decide +kernel) (pa_cons (pv 0) (pa_cons (pe_bltn (v := .ty "int") (u := .type "int") (by rfl) T.rc.int_ (by decide +kernel) rfl) pa_nil))) (pe_one (pe_not (pe_callB call_isi (by rfl) T.rc.isi (by decide +kernel) (pa_cons (pv 0) (pa_cons (pe_bltn (v := .ty "bool") (u := .type "bool") (by rfl) T.rc.bool_ (by decide +kernel) rfl) pa_nil)))))))), ?_⟩
    rcases h with ⟨t, d, q⟩ | ⟨⟨a, dx, fs, rfl, ha⟩, q⟩
    · have d' := d
      cases d with
      | non => exact ⟨_, rfl, _, _, _, _, false, rfl, .ty _, d'.typ, kit_ty (by decide +kernel), false, rfl, iteF q⟩
      | bl b => exact ⟨_, rfl, _, _, _, _, true, rfl, .ty _, d'.typ, kit_ty (by decide +kernel), true, rfl, iteT ⟨_, rfl, _, _, _, _, true, rfl, .ty _, d'.typ, kit_ty (by decide +kernel), true, rfl, q⟩⟩
      | int i => exact ⟨_, rfl, _, _, _, _, true, rfl, .ty _, d'.typ, kit_ty (by decide +kernel), true, rfl, iteT ⟨_, rfl, _, _, _, _, false, rfl, .ty _, d'.typ, kit_ty (by decide +kernel), false, rfl, q⟩⟩
      | str x => exact ⟨_, rfl, _, _, _, _, false, rfl, .ty _, d'.typ, kit_ty (by decide +kernel), false, rfl, iteF q⟩
      | lst e => exact ⟨_, rfl, _, _, _, _, false, rfl, .ty _, d'.typ, kit_ty (by decide +kernel), false, rfl, iteF q⟩
      | tup e => exact ⟨_, rfl, _, _, _, _, false, rfl, .ty _, d'.typ, kit_ty (by decide +kernel), false, rfl, iteF q⟩
      | dK e => exact ⟨_, rfl, _, _, _, _, false, rfl, .ty _, d'.typ, kit_ty (by decide +kernel), false, rfl, iteF q⟩
    · exact ⟨_, rfl, _, _, _, _, false, rfl, .ty _, .base (.ins ha T.rc.cl T.rc.ca T.rc.cn T.rc.ct T.rc.cm), T.kI, false, rfl, iteF q⟩
theorem iteT_of {b : Bool} {p q : Prop} (h : b = true) (x : p) : (if b = true then p else q) := by rw [h]; exact iteT x
def wordL (n t : PySem.Str) : List V := [.str n, .str t]
def isWhK : TK → Bool
  | .whole _ => true
  | _ => false
theorem thing_wh {H : Hp} {v : V} {t : PySem.Str} {k : TK} (h : Thing C H v t k) : IsWh C H v (isWhK k) := by
  cases k with
  | whole i => exact .inl ⟨"int", by rw [h.1]; exact .int i, by rw [h.1]; rfl⟩
  | num n q => exact h.isw (fun i e => by cases e)
  | other => exact h.isw (fun i e => by cases e)
/-- what making is due -/
def mdue (k1 : TK) (t1 : PySem.Str) (k2 : TK) (t2 : PySem.Str) : List V :=
  if isWhK k1 then (if isWhK k2 then (match k2 with | .whole i => if i = 0 then wordL "DividedByZero" "()" else [] | _ => []) else wordL "InvalidNumber" t2) else wordL "InvalidNumber" t1
def spMDue (C : Addr) : Sp := fun vs H Q _ => ∃ v u k1 t1 k2 t2, vs = [v, u] ∧ Thing C H v t1 k1 ∧ Thing C H u t2 k2 ∧ ∀ p H', Same H H' → H' p = some (.lst (mdue k1 t1 k2 t2)) → Q (.ref p) H'
theorem ok_MDue (T : Tx K mg C) : FnG P w K mg base CX0 5 T.aMDue T.dMDue ["_law_upper", "_law_lower"] (spMDue C) := by
  have GW : FnOk P w K mg base CX0 1 T.aLWh T.dLWh ["_law_thing_here"] (spIsW C) := ok_LWh T
  refine okG T.FMDue scMDue (fun vs H Q E h => ?_) (fun cdv A outer s H vs Q E hgd hr h => ?_)
  · obtain ⟨v, u, k1, t1, k2, t2, rfl, _⟩ := h
    rfl
  · obtain ⟨v, u, k1, t1, k2, t2, rfl, h1, h2, q⟩ := h
    have hr1 := hr.mono (show 1 ≤ 4 by decide)
    refine ⟨_, (pss_cons (ps_if (pt_not (pt_val (pe_call GW hr1 (by rfl) T.gLWh T.FLWh.kp T.bLWh .nil pass0 (pa_cons (pv 0) pa_nil)))) (pss_one (ps_ret (pe_lst (pa_cons pe_str (pa_cons (pe_callB (call_rTh (k := 1) T hgd hr) (by rfl) T.rc.repr_ (by decide +kernel) (pa_cons (pe_tup (pa_cons (pv 0) pa_nil)) pa_nil)) pa_nil))))) pss_nil)
      (pss_cons (ps_if (pt_not (pt_val (pe_call GW hr1 (by rfl) T.gLWh T.FLWh.kp T.bLWh .nil pass0 (pa_cons (pv 1) pa_nil)))) (pss_one (ps_ret (pe_lst (pa_cons pe_str (pa_cons (pe_callB (call_rTh (k := 1) T hgd hr) (by rfl) T.rc.repr_ (by decide +kernel) (pa_cons (pe_tup (pa_cons (pv 1) pa_nil)) pa_nil)) pa_nil))))) pss_nil)
      (pss_one (ps_ret (pe_ifExp (pt_cmpR op_eq (pv 1) pe_int (nomark _)) (pe_lst (pa_cons pe_str (pa_cons pe_str pa_nil))) (pe_lst pa_nil)))))), ?_⟩
    change tIfS _ _ _ _ _ _
    refine isw_if (by rfl) (thing_wh h1) ?_
    cases hk1 : isWhK k1 with
    | false =>
      refine iteT ⟨_, rfl, (by show 1 ≤ sizeLine; decide), fun p np => rTh_of (h1.txt.same (same_new (Same.refl _) np)) upd_same ⟨(by show 2 ≤ sizeLine; decide), fun p2 n2 => q p2 _ (same_new (same_new (Same.refl _) np) n2) ?_⟩⟩
      unfold mdue
      rw [hk1]
      exact upd_same
    | true =>
      refine iteF ?_
      unfold tNext
      dsimp only
      change tIfS _ _ _ _ _ _
      refine isw_if (by rfl) (thing_wh h2) ?_
      cases hk2 : isWhK k2 with
      | false =>
        refine iteT ⟨_, rfl, (by show 1 ≤ sizeLine; decide), fun p np => rTh_of (h2.txt.same (same_new (Same.refl _) np)) upd_same ⟨(by show 2 ≤ sizeLine; decide), fun p2 n2 => q p2 _ (same_new (same_new (Same.refl _) np) n2) ?_⟩⟩
        unfold mdue
        rw [hk1, hk2]
        exact upd_same
      | true =>
        refine iteF ?_
        cases k2 with
        | num n q => cases hk2
        | other => cases hk2
        | whole i =>
          obtain ⟨rfl, _⟩ := h2
          refine ⟨_, rfl, rfl, _, rfl, ?_⟩
          refine ite2 (fun hc => ?_) (fun hc => ?_)
          · have hi : i = 0 := by simpa using hc
            refine ⟨(by show 2 ≤ sizeLine; decide), fun p np => q p _ (same_new (Same.refl _) np) ?_⟩
            unfold mdue
            rw [hk1]
            simp only [isWhK, if_true, if_pos hi]
            exact upd_same
          · have hi : ¬ i = 0 := by simpa using hc
            refine ⟨(by show 0 ≤ sizeLine; decide), fun p np => q p _ (same_new (Same.refl _) np) ?_⟩
            unfold mdue
            rw [hk1]
            simp only [isWhK, if_true, if_neg hi]
            exact upd_same
/-- what a quotient is due -/
def odue (k : TK) (t : PySem.Str) : List V := match k with
  | .whole i => if i = 0 then wordL "DividedByZero" "()" else []
  | .num _ q => if q = 0 then wordL "DividedByZero" "()" else []
  | .other => wordL "InvalidNumber" t
/-- what a power is due: z is whether the base is 0 -/
def pdue (z : Bool) (k : TK) (t : PySem.Str) : List V := match k with
  | .whole i => if i < -20 ∨ i > 20 then wordL "InvalidCount" t else if z = true ∧ i < 0 then wordL "DividedByZero" "()" else []
  | _ => wordL "InvalidCount" t
theorem opR_or {X : Cx} {f : Value → Value → Sem Value} {r1 r2 : R2} (h1 : OpR X f r1) (h2 : OpR X f r2) : OpR X f (fun x y H Q => r1 x y H Q ∨ r2 x y H Q) := fun pins s σ H x y v u Q I rx ry h => h.elim (h1 pins s σ H x y v u Q I rx ry) (h2 pins s σ H x y v u Q I rx ry)
def spODue (C : Addr) : Sp := fun vs H Q _ => ∃ v k t, vs = [v] ∧ Thing C H v t k ∧ ∀ p H', Same H H' → H' p = some (.lst (odue k t)) → Q (.ref p) H'
theorem ok_ODue (T : Tx K mg C) : FnG P w K mg base CX0 5 T.aODue T.dODue ["_law_by"] (spODue C) := by
  have GW : FnOk P w K mg base CX0 1 T.aLWh T.dLWh ["_law_thing_here"] (spIsW C) := ok_LWh T
  refine okG T.FODue scODue (fun vs H Q E h => ?_) (fun cdv A outer s H vs Q E hgd hr h => ?_)
  · obtain ⟨v, k, t, rfl, _⟩ := h
    rfl
  · obtain ⟨v, k, t, rfl, h1, q⟩ := h
    have hr1 := hr.mono (show 1 ≤ 4 by decide)
    have hr3 := hr.mono (show 3 ≤ 4 by decide)
    refine ⟨_, (pss_cons (ps_if (PW.pt (pw_and (pt_not (pt_val (pe_call GW hr1 (by rfl) T.gLWh T.FLWh.kp T.bLWh .nil pass0 (pa_cons (pv 0) pa_nil)))) (pw_and1 (pt_not (pt_val (pe_callB call_isi (by rfl) T.rc.isi (by decide +kernel) (pa_cons (pv 0) (pa_cons (pe_glob (v := .ref C) (by rfl) T.rc.mgC rfl) pa_nil))))))))
      (pss_one (ps_ret (pe_lst (pa_cons pe_str (pa_cons (pe_callB (call_rTh (k := 1) T hgd hr) (by rfl) T.rc.repr_ (by decide +kernel) (pa_cons (pe_tup (pa_cons (pv 0) pa_nil)) pa_nil)) pa_nil))))) pss_nil)
      (pss_one (ps_ret (pe_ifExp (pt_cmpR (opR_or op_eq (op_eqq (k2 := false) T.rc T.sIC (DEq T) T.hEq hr3)) (pv 0) pe_int (nomark _)) (pe_lst (pa_cons pe_str (pa_cons pe_str pa_nil))) (pe_lst pa_nil))))), ?_⟩
    cases k with
    | whole i =>
      obtain ⟨rfl, _⟩ := h1
      refine ⟨_, rfl, _, rfl, .inl ⟨_, .int i, _, rfl, iteF ?_⟩⟩
      refine ⟨_, rfl, .inl ⟨rfl, _, rfl, ?_⟩⟩
      refine ite2 (fun hc => ?_) (fun hc => ?_)
      · have hi : i = 0 := by simpa using hc
        refine ⟨(by show 2 ≤ sizeLine; decide), fun p np => q p _ (same_new (Same.refl _) np) ?_⟩
        unfold odue
        simp only [if_pos hi]
        exact upd_same
      · have hi : ¬ i = 0 := by simpa using hc
        refine ⟨(by show 0 ≤ sizeLine; decide), fun p np => q p _ (same_new (Same.refl _) np) ?_⟩
        unfold odue
        simp only [if_neg hi]
        exact upd_same
    | num n x =>
      obtain ⟨⟨a, rfl, ra⟩, _⟩ := h1
      obtain ⟨⟨dx, ha⟩, _⟩ := id ra
      refine ⟨_, rfl, _, rfl, .inr ⟨ra.ins, _, rfl, iteT ?_⟩⟩
      refine ⟨_, rfl, .ref a, .ref C, .ref C, .ref C, true, rfl, .own C, .base (.ins ha T.rc.cl T.rc.ca T.rc.cn T.rc.ct T.rc.cm), T.rc.kC, true, rfl, iteF ?_⟩
      refine ⟨_, rfl, .inr ⟨n, 1, x, ((0 : Int) : Rat), ra.nv, nvI (by decide) (by decide), _, rfl, ?_⟩⟩
      refine ite2 (fun hc => ?_) (fun hc => ?_)
      · have hi : x = 0 := by simpa using hc
        refine ⟨(by show 2 ≤ sizeLine; decide), fun p np => q p _ (same_new (Same.refl _) np) ?_⟩
        unfold odue
        simp only [if_pos hi]
        exact upd_same
      · have hi : ¬ x = 0 := by simpa using hc
        refine ⟨(by show 0 ≤ sizeLine; decide), fun p np => q p _ (same_new (Same.refl _) np) ?_⟩
        unfold odue
        simp only [if_neg hi]
        exact upd_same
    | other =>
      obtain ⟨t', d, e⟩ := h1.1
      refine ⟨_, rfl, _, rfl, .inl ⟨_, d, _, rfl, ?_⟩⟩
      rw [e]
      refine iteT ⟨_, rfl, v, .ref C, .type t', .ref C, false, rfl, .own C, d.typ, T.rc.kB _ d.mem, false, rfl, iteT ?_⟩
      exact ⟨_, rfl, (by show 1 ≤ sizeLine; decide), fun p np => rTh_of (h1.txt.same (same_new (Same.refl _) np)) upd_same ⟨(by show 2 ≤ sizeLine; decide), fun p2 n2 => q p2 _ (same_new (same_new (Same.refl _) np) n2) upd_same⟩⟩
def spPDue (C : Addr) : Sp := fun vs H Q _ => ∃ b v k t n x, vs = [.ref b, v] ∧ RQ C H b n x ∧ Thing C H v t k ∧ ∀ p H', Same H H' → H' p = some (.lst (pdue (decide (x = 0)) k t)) → Q (.ref p) H'
theorem ok_PDue (T : Tx K mg C) : FnG P w K mg base CX0 5 T.aPDue T.dPDue ["_law_base", "_law_degree"] (spPDue C) := by
  have GW : FnOk P w K mg base CX0 1 T.aLWh T.dLWh ["_law_thing_here"] (spIsW C) := ok_LWh T
  refine okG T.FPDue scPDue (fun vs H Q E h => ?_) (fun cdv A outer s H vs Q E hgd hr h => ?_)
  · obtain ⟨b, v, k, t, n, x, rfl, _⟩ := h
    rfl
  · obtain ⟨b, v, k, t, n, x, rfl, ra, h1, q⟩ := h
    have hr1 := hr.mono (show 1 ≤ 4 by decide)
    have hr3 := hr.mono (show 3 ≤ 4 by decide)
    refine ⟨_, (pss_cons (ps_if (PW.pt (pw_or (pt_not (pt_val (pe_call GW hr1 (by rfl) T.gLWh T.FLWh.kp T.bLWh .nil pass0 (pa_cons (pv 1) pa_nil)))) (pw_or (pt_cmpR op_lt (pv 1) (pe_un un_neg pe_int) (nomark _)) (pw_or1 (pt_cmpR op_gt (pv 1) pe_int (nomark _))))))
      (pss_one (ps_ret (pe_lst (pa_cons pe_str (pa_cons (pe_callB (call_rTh (k := 1) T hgd hr) (by rfl) T.rc.repr_ (by decide +kernel) (pa_cons (pe_tup (pa_cons (pv 1) pa_nil)) pa_nil)) pa_nil))))) pss_nil)
      (pss_one (ps_ret (pe_ifExp (PW.pt (pw_and (pt_cmpR (op_eqq (k2 := false) T.rc T.sIC (DEq T) T.hEq hr3) (pv 0) pe_int (nomark _)) (pw_and1 (pt_cmpR op_lt (pv 1) pe_int (nomark _))))) (pe_lst (pa_cons pe_str (pa_cons pe_str pa_nil))) (pe_lst pa_nil))))), ?_⟩
    cases k with
    | whole i =>
      have ht := h1.txt
      obtain ⟨rfl, _⟩ := h1
      refine ⟨_, rfl, _, rfl, .inl ⟨_, .int i, _, rfl, iteF ?_⟩⟩
      refine ⟨_, rfl, _, rfl, _, _, rfl, rfl, _, rfl, ?_⟩
      by_cases hl : i < -20
      · rw [decide_eq_true hl]
        refine iteT (iteT ?_)
        refine ⟨_, rfl, (by show 1 ≤ sizeLine; decide), fun p np => rTh_of (ht.same (same_new (Same.refl _) np)) upd_same ⟨(by show 2 ≤ sizeLine; decide), fun p2 n2 => q p2 _ (same_new (same_new (Same.refl _) np) n2) ?_⟩⟩
        unfold pdue
        simp only [if_pos (show i < -20 ∨ i > 20 from .inl hl)]
        exact upd_same
      · rw [decide_eq_false hl]
        refine iteF ⟨_, rfl, _, _, rfl, rfl, _, rfl, ?_⟩
        by_cases hg : i > 20
        · rw [decide_eq_true hg]
          refine iteT ?_
          refine ⟨_, rfl, (by show 1 ≤ sizeLine; decide), fun p np => rTh_of (ht.same (same_new (Same.refl _) np)) upd_same ⟨(by show 2 ≤ sizeLine; decide), fun p2 n2 => q p2 _ (same_new (same_new (Same.refl _) np) n2) ?_⟩⟩
          unfold pdue
          simp only [if_pos (show i < -20 ∨ i > 20 from .inr hg)]
          exact upd_same
        · rw [decide_eq_false hg]
          refine iteF ?_
          have ho : ¬ (i < -20 ∨ i > 20) := by omega
          refine ⟨_, rfl, n, 1, x, ((0 : Int) : Rat), ra.nv, nvI (by decide) (by decide), _, rfl, ?_⟩
          by_cases hx : x = 0
          · refine iteT_of (show decide (x = ((0 : Int) : Rat)) = true by simpa using hx) ⟨_, rfl, _, _, rfl, rfl, _, rfl, ?_⟩
            by_cases hi : i < 0
            · rw [decide_eq_true hi]
              refine iteT ⟨(by show 2 ≤ sizeLine; decide), fun p np => q p _ (same_new (Same.refl _) np) ?_⟩
              unfold pdue
              simp only [if_neg ho, decide_eq_true hx, if_pos (show True ∧ i < 0 from ⟨trivial, hi⟩)]
              exact upd_same
            · rw [decide_eq_false hi]
              refine iteF ⟨(by show 0 ≤ sizeLine; decide), fun p np => q p _ (same_new (Same.refl _) np) ?_⟩
              unfold pdue
              simp only [if_neg ho, if_neg (show ¬ (decide (x = 0) = true ∧ i < 0) from fun z => hi z.2)]
              exact upd_same
          · refine iteF_of (show decide (x = ((0 : Int) : Rat)) = false by simpa using hx) (iteF ⟨(by show 0 ≤ sizeLine; decide), fun p np => q p _ (same_new (Same.refl _) np) ?_⟩)
            unfold pdue
            simp only [if_neg ho, if_neg (show ¬ (decide (x = 0) = true ∧ i < 0) from fun z => hx (of_decide_eq_true z.1))]
            exact upd_same
    | num m y =>
      have ht := h1.txt
      refine ⟨_, rfl, _, rfl, .inr ⟨(let ⟨⟨a, e, r⟩, _⟩ := h1; e ▸ r.ins), _, rfl, iteT (iteT ?_)⟩⟩
      exact ⟨_, rfl, (by show 1 ≤ sizeLine; decide), fun p np => rTh_of (ht.same (same_new (Same.refl _) np)) upd_same ⟨(by show 2 ≤ sizeLine; decide), fun p2 n2 => q p2 _ (same_new (same_new (Same.refl _) np) n2) upd_same⟩⟩
    | other =>
      have ht := h1.txt
      obtain ⟨t', d, e⟩ := h1.1
      refine ⟨_, rfl, _, rfl, .inl ⟨_, d, _, rfl, ?_⟩⟩
      rw [e]
      refine iteT (iteT ?_)
      exact ⟨_, rfl, (by show 1 ≤ sizeLine; decide), fun p np => rTh_of (ht.same (same_new (Same.refl _) np)) upd_same ⟨(by show 2 ≤ sizeLine; decide), fun p2 n2 => q p2 _ (same_new (same_new (Same.refl _) np) n2) upd_same⟩⟩
end
end T06

/-! What is caught of making, of quotients and powers, held against what is due. -/
namespace T06
open PySem PySem.Spec PyProof.Rows L2 SF SQ LamX SFT L2H
section
variable {P : Program} {w : World} {K : PySem.W.Frag} {mg : Str → Option Value} {base : Heap} {C : Addr}
theorem ok_IsDue (T : Tx K mg C) : FnOk P w K mg base CX0 1 T.aIDue T.dIDue ["_law_seen", "_law_due"] spIsDue := by
  refine T.FIDue.ok scIDue (fun vs H Q E h => ?_) (fun cdv A outer s H vs Q E hr h => ?_)
  · obtain ⟨p, q, w, x, ds, rfl, _⟩ := h
    rfl
  · obtain ⟨p, q, w, x, ds, rfl, e1, e2, o1, o2, z⟩ := h
    refine ⟨_, (pss_one (ps_ret (pe_ifExp (pt_cmpR (op_eqD hr.units) (pv 1) (pe_lst pa_nil) (nomark _)) (pe_cmpR op_eq (pe_ix ix_list (pv 0) pe_int (fun _ _ => rfl)) pe_str (nomark _)) (pe_cmpR (op_eqD hr.units) (pv 0) (pv 1) (nomark _))))), ?_⟩
    refine ⟨_, rfl, (by show 0 ≤ sizeLine; decide), fun a na => ?_⟩
    have S := same_new (o := HO.lst []) (Same.refl H) na
    have d1 := S _ _ e1
    have d2 := S _ _ e2
    refine ⟨_, _, .lst (SqL.of d2) (dp_strs ds), .lst (SqL.of upd_same) (dp_strs []), shaped_strs o2, shaped_strs (xs := []) rfl, _, rfl, ?_⟩
    have eq0 : PyData.eqv (.list (ds.map .str)) (.list (([] : List PySem.Str).map .str)) = decide (ds = []) := eqv_strs ds []
    rw [eq0]
    have zz := z _ S
    unfold dueB at zz
    by_cases hd : ds = []
    · rw [decide_eq_true hd]
      rw [if_pos hd] at zz
      refine iteT ⟨_, rfl, p, _, _, .str w, rfl, rfl, SqL.of d1, rfl, rfl, ?_⟩
      have e : decide (V.str w = V.str "told") = decide (w = "told") := by
        by_cases h : w = "told"
        · rw [h]; simp
        · rw [decide_eq_false h, decide_eq_false (fun z => h (V.str.inj z))]
      rw [e]
      exact zz
    · rw [decide_eq_false hd]
      rw [if_neg hd] at zz
      refine iteF ⟨_, rfl, _, rfl, _, _, .lst (SqL.of d1) (dp_strs [w, x]), .lst (SqL.of d2) (dp_strs ds), shaped_strs o1, shaped_strs o2, ?_⟩
      have eq1 : PyData.eqv (.list ([w, x].map .str)) (.list (ds.map .str)) = decide ([w, x] = ds) := eqv_strs [w, x] ds
      rw [eq1]
      exact zz
/-- the texts that making is due -/
def mdueT (k1 : TK) (t1 : PySem.Str) (k2 : TK) (t2 : PySem.Str) : List PySem.Str :=
  if isWhK k1 then (if isWhK k2 then (match k2 with | .whole i => if i = 0 then ["DividedByZero", "()"] else [] | _ => []) else ["InvalidNumber", t2]) else ["InvalidNumber", t1]
theorem mdue_is (k1 k2 : TK) (t1 t2 : PySem.Str) : mdue k1 t1 k2 t2 = (mdueT k1 t1 k2 t2).map V.str := by
  cases k1 with
  | num n q => rfl
  | other => rfl
  | whole i =>
    cases k2 with
    | num n q => rfl
    | other => rfl
    | whole j =>
      show (if j = 0 then wordL "DividedByZero" "()" else []) = List.map V.str (if j = 0 then ["DividedByZero", "()"] else [])
      split <;> rfl
def odueT (k : TK) (t : PySem.Str) : List PySem.Str := match k with
  | .whole i => if i = 0 then ["DividedByZero", "()"] else []
  | .num _ q => if q = 0 then ["DividedByZero", "()"] else []
  | .other => ["InvalidNumber", t]
theorem odue_is (k : TK) (t : PySem.Str) : odue k t = (odueT k t).map V.str := by
  unfold odue odueT wordL
  cases k <;> simp only [] <;> (try split) <;> simp
def pdueT (z : Bool) (k : TK) (t : PySem.Str) : List PySem.Str := match k with
  | .whole i => if i < -20 ∨ i > 20 then ["InvalidCount", t] else if z = true ∧ i < 0 then ["DividedByZero", "()"] else []
  | _ => ["InvalidCount", t]
theorem pdue_is (z : Bool) (k : TK) (t : PySem.Str) : pdue z k t = (pdueT z k t).map V.str := by
  unfold pdue pdueT wordL
  cases k <;> simp only [] <;> (repeat' split) <;> simp
theorem mdue_ok {k1 k2 : TK} {t1 t2 : PySem.Str} (h1 : PyData.strOk t1 = true) (h2 : PyData.strOk t2 = true) : (mdueT k1 t1 k2 t2).all PyData.strOk = true := by
  have a : PyData.strOk "InvalidNumber" = true := by decide +kernel
  have b : (["DividedByZero", "()"] : List PySem.Str).all PyData.strOk = true := by decide +kernel
  have c : ∀ t, PyData.strOk t = true → (["InvalidNumber", t] : List PySem.Str).all PyData.strOk = true := fun t h => by simp [a, h]
  cases k1 with
  | num n q => exact c _ h1
  | other => exact c _ h1
  | whole i =>
    cases k2 with
    | num n q => exact c _ h2
    | other => exact c _ h2
    | whole j =>
      show (if j = 0 then ["DividedByZero", "()"] else [] : List PySem.Str).all PyData.strOk = true
      split
      · exact b
      · rfl
theorem odue_ok {k : TK} {t : PySem.Str} (h1 : PyData.strOk t = true) : (odueT k t).all PyData.strOk = true := by
  have a : PyData.strOk "InvalidNumber" = true := by decide +kernel
  have b : (["DividedByZero", "()"] : List PySem.Str).all PyData.strOk = true := by decide +kernel
  unfold odueT
  cases k <;> simp only [] <;> (try split) <;> first | exact b | rfl | simp [a, h1]
theorem pdue_ok {z : Bool} {k : TK} {t : PySem.Str} (h1 : PyData.strOk t = true) : (pdueT z k t).all PyData.strOk = true := by
  have a : PyData.strOk "InvalidCount" = true := by decide +kernel
  have b : (["DividedByZero", "()"] : List PySem.Str).all PyData.strOk = true := by decide +kernel
  unfold pdueT
  cases k <;> simp only [] <;> (repeat' split) <;> first | exact b | rfl | simp [a, h1]
end
section
variable {X : Cx} {C D : Addr} {G : L2.St → Hp → Prop} {E : XK} {a b o : Expr} {n m : Nat} {q r : Rat} {i j : Int} {s1 s2 : Prop} {p pos apos kpos kp2 : Pos}
theorem pz_powerK {pl : Sem Bool} (T : Tx X.K X.mg C) (Z : DZ X.K X.mg D) (hx : Passes (L2.CX X.prog X.w) X E) (hr : Room 5 X.A) (hG : GS G) (ho : PE X o (TQ C G true n 0 s1)) (ha : PE X a (TI G i s2))
    (hall : (backToKw pos (keywordEach [⟨some "exponent", a, kpos⟩] X.env)).all (·.1.isSome) = true := by rfl) (hks : (backToKw pos (keywordEach [⟨some "exponent", a, kpos⟩] X.env)).filterMap (·.1) = (["exponent"] : List PySem.Str) := by rfl)
    (hpl : ((backTo pos (starEach [] X.env)).any (·.1) || (backToKw pos (keywordEach [⟨some "exponent", a, kpos⟩] X.env)).any (·.1.isNone)) = false := by rfl)
    (ht : eval (.Call (.Attribute o "power" apos) [] [⟨some "exponent", a, kpos⟩] pos) X.env = (do
      let ov ← eval o X.env
      standAt apos.atName
      let (f, first) ← holding [ov] (getMethod ov "power" pl)
      callWith pos f first (backTo pos (starEach [] X.env)) (backToKw pos (keywordEach [⟨some "exponent", a, kpos⟩] X.env))) := by rfl) :
    PE X (.Call (.Attribute o "power" apos) [] [⟨some "exponent", a, kpos⟩] pos) (TZ E D G (s1 ∧ s2 ∧ -20 ≤ i ∧ i < 0 ∧ n ≤ LIM)) :=
  pe_weak (pe_methKW (pl := pl) (E := E) (ks := ["exponent"]) ho T.rc.cl (mPower T) (zq_Power T Z) hr (kPower T) hx (pk_cons ha pk_nil) hall hks hpl ht) fun σ H Q ⟨hg, ⟨h1, h2, h3, h4, h5⟩, z⟩ =>
    ⟨hg, h1, fun v H1 S1 nv => by
      obtain ⟨a, rfl, y'⟩ := nv_true nv
      obtain ⟨⟨dx, e⟩, _⟩ := id y'
      exact ⟨a, dx, _, rfl, e, rf_no _ _ (by decide +kernel) (by decide +kernel), hG _ _ _ hg S1, h2, fun H2 S2 => ⟨rfl, a, n, i, rfl, y'.same S2, h3, h4, h5, fun H3 S3 => z H3 ((S1.trans S2).trans S3)⟩⟩⟩
theorem pq_powerK {pl : Sem Bool} (T : Tx X.K X.mg C) (hr : Room 5 X.A) (hG : GS G) (ho : PE X o (TQ C G true n q s1)) (ha : PE X a (TI G i s2))
    (hall : (backToKw pos (keywordEach [⟨some "exponent", a, kpos⟩] X.env)).all (·.1.isSome) = true := by rfl) (hks : (backToKw pos (keywordEach [⟨some "exponent", a, kpos⟩] X.env)).filterMap (·.1) = (["exponent"] : List PySem.Str) := by rfl)
    (hpl : ((backTo pos (starEach [] X.env)).any (·.1) || (backToKw pos (keywordEach [⟨some "exponent", a, kpos⟩] X.env)).any (·.1.isNone)) = false := by rfl)
    (ht : eval (.Call (.Attribute o "power" apos) [] [⟨some "exponent", a, kpos⟩] pos) X.env = (do
      let ov ← eval o X.env
      standAt apos.atName
      let (f, first) ← holding [ov] (getMethod ov "power" pl)
      callWith pos f first (backTo pos (starEach [] X.env)) (backToKw pos (keywordEach [⟨some "exponent", a, kpos⟩] X.env))) := by rfl) :
    PE X (.Call (.Attribute o "power" apos) [] [⟨some "exponent", a, kpos⟩] pos) (TQ C G true (n * i.natAbs + 1) (q ^ i) (s1 ∧ s2 ∧ -20 ≤ i ∧ i ≤ 20 ∧ (q ≠ 0 ∨ 0 ≤ i) ∧ n * i.natAbs + 1 ≤ LIM ∧ n ≤ LIM)) :=
  pe_weak (pe_methKW (pl := pl) (E := E0) (ks := ["exponent"]) ho T.rc.cl (mPower T) (DPower T).G hr (kPower T) pass0 (pk_cons ha pk_nil) hall hks hpl ht) fun σ H Q ⟨hg, ⟨h1, h2, h3⟩, z⟩ =>
    ⟨hg, h1, fun v H1 S1 nv => by
      obtain ⟨a, rfl, y'⟩ := nv_true nv
      obtain ⟨⟨dx, e⟩, _⟩ := id y'
      obtain ⟨h31, h32, h33, h34, h35⟩ := h3
      exact ⟨a, dx, _, rfl, e, rf_no _ _ (by decide +kernel) (by decide +kernel), hG _ _ _ hg S1, h2, fun H2 S2 => ⟨rfl, a, n, q, i, rfl, y'.same S2, h31, h32, h33, h34, h35, fun p H3 S3 rq => z _ H3 ((S1.trans S2).trans S3) rq.nv⟩⟩⟩
/-- Ratio(bottom=f, top=e), integers -/
theorem pq_makeK (T : Tx X.K X.mg C) (hr : Room 3 X.A) (hg : Gl X "Ratio") (hG : GS G) (ha : PE X a (TI G i s1)) (hb : PE X b (TI G j s2)) (hi : i.natAbs < 2 ^ n) (hj : j.natAbs < 2 ^ n)
    (hall : (backToKw pos (keywordEach [⟨some "bottom", b, kpos⟩, ⟨some "top", a, kp2⟩] X.env)).all (·.1.isSome) = true := by rfl) (hks : (backToKw pos (keywordEach [⟨some "bottom", b, kpos⟩, ⟨some "top", a, kp2⟩] X.env)).filterMap (·.1) = (["bottom", "top"] : List PySem.Str) := by rfl)
    (hpl : ((backTo pos (starEach [] X.env)).any (·.1) || (backToKw pos (keywordEach [⟨some "bottom", b, kpos⟩, ⟨some "top", a, kp2⟩] X.env)).any (·.1.isNone)) = false := by rfl) :
    PE X (.Call (.Name "Ratio" p) [] [⟨some "bottom", b, kpos⟩, ⟨some "top", a, kp2⟩] pos) (TQ C G true n (Rat.divInt i j) (s1 ∧ s2 ∧ j ≠ 0 ∧ n ≤ LIM)) := by
  obtain ⟨g, hK⟩ := kIni T
  refine pe_weak (pe_makeK0 (E := E0) T.M (ok_init T) hr hg T.rc.mgC hK pass0 (pk_cons hb (pk_cons ha pk_nil)) hall hks (by decide) hpl) fun σ H Q ⟨hg, ⟨h1, h2, h3, h4⟩, z⟩ =>
    ⟨hg, h2, fun H1 S1 => ⟨hG _ _ _ hg S1, h1, fun H2 S2 => ⟨rfl, rfl, fun x dx hx hd hn => ?_⟩⟩⟩
  exact mk_fin hx hd hn h3 hi hj h4 fun H3 S3 rq => ⟨rfl, z _ H3 ((S1.trans S2).trans S3) rq.nv⟩
theorem pz_makeK (T : Tx X.K X.mg C) (Z : DZ X.K X.mg D) (hx : Passes (L2.CX X.prog X.w) X E) (hr : Room 3 X.A) (hg : Gl X "Ratio") (hG : GS G) (ha : PE X a (TI G i s1)) (hb : PE X b (TI G 0 s2))
    (hall : (backToKw pos (keywordEach [⟨some "bottom", b, kpos⟩, ⟨some "top", a, kp2⟩] X.env)).all (·.1.isSome) = true := by rfl) (hks : (backToKw pos (keywordEach [⟨some "bottom", b, kpos⟩, ⟨some "top", a, kp2⟩] X.env)).filterMap (·.1) = (["bottom", "top"] : List PySem.Str) := by rfl)
    (hpl : ((backTo pos (starEach [] X.env)).any (·.1) || (backToKw pos (keywordEach [⟨some "bottom", b, kpos⟩, ⟨some "top", a, kp2⟩] X.env)).any (·.1.isNone)) = false := by rfl) :
    PE X (.Call (.Name "Ratio" p) [] [⟨some "bottom", b, kpos⟩, ⟨some "top", a, kp2⟩] pos) (TZ E D G (s1 ∧ s2)) := by
  obtain ⟨g, hK⟩ := kIni T
  refine pe_weak (pe_makeK0 (E := E) T.M (zq_ini T Z) hr hg T.rc.mgC hK hx (pk_cons hb (pk_cons ha pk_nil)) hall hks (by decide) hpl) fun σ H Q ⟨hg, ⟨h1, h2⟩, z⟩ =>
    ⟨hg, h2, fun H1 S1 => ⟨hG _ _ _ hg S1, h1, fun H2 S2 => ⟨rfl, rfl, fun x dx hx hd hn => ?_⟩⟩⟩
  exact ⟨x, i, rfl, fun H3 S3 => z H3 (((S1.trans S2).trans (same_new (same_new (Same.refl _) hd) (by rw [upd_ne (Ne.symm hn)]; exact hx))).trans S3)⟩
end
end T06

/-! What is caught, by kinds of things. -/
namespace T06
open PySem PySem.Spec PyProof.Rows L2 SF SQ LamX SFT L2H
/-- a def that makes lambdas -/
structure Amb (X : Cx) (Tb : List (Addr × Str)) (c Pa : Addr) : Prop where
  gd : X.A.guards = some []
  hr : Room 9 X.A
  gc : Gl X "_law_caught"
  TB : TabB X.base X.mg c Pa
  code : X.env.code = .ref c
  mT : (Pa, X.env.qual ++ "<lambda>") ∈ Tb
  hu : ∀ p ∈ Tb, p.1 = Pa → p.2 = X.env.qual ++ "<lambda>"
section
variable {X : Cx} {C : Addr} {cs bs : Nat → Addr} {Tb : List (Addr × Str)} {c Pa : Addr} {params : Arguments} {body : Expr} {scope : Scope} {p lpos pos : Pos} {G : L2.St → Hp → Prop} {t : PySem.Str} {s : Prop} {n : Nat} {q : Rat}
theorem cd_wrong (T : Tx X.K X.mg C) (Z : CErr X.K X.mg cs bs) (N : ND X.K) (M : Amb X Tb c Pa) (hG : GN G) {j : Nat} (hj : j < 12) (hgv : ∀ v, given j [("given", v)] = some [v]) (hs : s) (hok : PyData.strOk t = true) (L : LamS X.env.scope scope)
    (hbody : ∀ (A : Around) (outer : List PySem.Env) (s' : Shared) (H : Hp) (E : XK) (f c' : Addr), Room 7 (A.deeper (lamEnv X scope s'.heap.objs.size f c')) → PE (lamCx X A outer s' H E scope f c') body (TW E (cs j) C G t s))
    (hdef : defaultsOf params X.env = ([], [])) (hbind : ∀ (q : Str) (cl : List (Str × Addr)) (pm cv ctv : Value), bindArgs (PySem.W.kla_fn "<lambda>" q params body scope cl pm cv ctv) ⟨[], []⟩ = pure []) :
    CD X (.Call (.Name "_law_caught" p) [.Lambda params body scope lpos] [] pos) G Tb [cnm j, t] := by
  have h := lam_caughtW (k := 5) (T := Tb) (p := p) (lpos := lpos) (pos := pos) T Z N M.gd M.hr M.gc M.TB M.code M.mT M.hu L hbody hdef hbind
  refine ⟨_, _, _, pc_wrong hj hgv h hG, hs, ?_, ?_⟩
  · have a : PyData.strOk (cnm j) = true := (by decide +kernel : ∀ j, j < 12 → PyData.strOk (cnm j) = true) j hj
    simp [a, hok]
  · unfold dueB
    rw [if_neg (by simp)]
    exact decide_eq_true rfl
theorem cd_zero (T : Tx X.K X.mg C) (Z : CErr X.K X.mg cs bs) (N : ND X.K) (M : Amb X Tb c Pa) (hG : GN G) (hs : s) (L : LamS X.env.scope scope)
    (hbody : ∀ (A : Around) (outer : List PySem.Env) (s' : Shared) (H : Hp) (E : XK) (f c' : Addr), Room 7 (A.deeper (lamEnv X scope s'.heap.objs.size f c')) → PE (lamCx X A outer s' H E scope f c') body (TZ E (cs 10) G s))
    (hdef : defaultsOf params X.env = ([], [])) (hbind : ∀ (q : Str) (cl : List (Str × Addr)) (pm cv ctv : Value), bindArgs (PySem.W.kla_fn "<lambda>" q params body scope cl pm cv ctv) ⟨[], []⟩ = pure []) :
    CD X (.Call (.Name "_law_caught" p) [.Lambda params body scope lpos] [] pos) G Tb ["DividedByZero", "()"] := by
  have h := lam_caught (k := 5) (T := Tb) (p := p) (lpos := lpos) (pos := pos) T Z N M.gd M.hr M.gc M.TB M.code M.mT M.hu L hbody hdef hbind
  exact ⟨_, _, _, pc_fail h hG, hs, by decide +kernel, by decide +kernel⟩
theorem cd_told (T : Tx X.K X.mg C) (Z : CErr X.K X.mg cs bs) (N : ND X.K) (M : Amb X Tb c Pa) (hG : GN G) (hs : s) (hn : n ≤ LIM) (L : LamS X.env.scope scope)
    (hbody : ∀ (A : Around) (outer : List PySem.Env) (s' : Shared) (H : Hp) (E : XK) (f c' : Addr), Room 7 (A.deeper (lamEnv X scope s'.heap.objs.size f c')) → PE (lamCx X A outer s' H E scope f c') body (TQ C G true n q s))
    (hdef : defaultsOf params X.env = ([], [])) (hbind : ∀ (q : Str) (cl : List (Str × Addr)) (pm cv ctv : Value), bindArgs (PySem.W.kla_fn "<lambda>" q params body scope cl pm cv ctv) ⟨[], []⟩ = pure []) :
    CD X (.Call (.Name "_law_caught" p) [.Lambda params body scope lpos] [] pos) G Tb [] := by
  have h := lam_caught (k := 5) (T := Tb) (p := p) (lpos := lpos) (pos := pos) T Z N M.gd M.hr M.gc M.TB M.code M.mT M.hu L hbody hdef hbind
  refine ⟨_, _, _, pc_told h hG, ⟨hs, hn⟩, ?_, ?_⟩
  · have a : PyData.strOk "told" = true := by decide +kernel
    simp [a, ok_rrepr]
  · unfold dueB
    rw [if_pos rfl]
    exact decide_eq_true rfl
end
/-! a call as a body of a lambda: what it asks of its context -/
section
variable {X : Cx} {C a : Addr} {cs bs : Nat → Addr} {Tb : List (Addr × Str)} {c Pa : Addr} {params : Arguments} {scope : Scope} {p lpos pos : Pos} {fs : List WF} {i1 i2 : Nat} {v1 v2 : V} {k1 k2 : TK} {t1 t2 : PySem.Str} {p1 p2 p3 p4 p5 p6 : Pos} {xa xb xo : Str} {fI : Addr} {fdI : FuncData} {b0 : Addr} {n : Nat} {q : Rat}
theorem PT0 {X : Cx} {E : XK} {scope : Scope} {A : Around} {outer : List PySem.Env} {s : Shared} {H : Hp} {f c' : Addr} : Passes (L2.CX (lamCx X A outer s H E scope f c').prog (lamCx X A outer s H E scope f c').w) (lamCx X A outer s H E scope f c') E :=
  passes_call (takes_of (E := E) rfl rfl rfl rfl) (fun _ _ _ _ h => h)
theorem kb_nat {i : Int} (h : KB (.whole i)) : i.natAbs < 2 ^ PN := big_pn h.1 h.2
theorem c_make (T : Tx X.K X.mg C) (Z : CErr X.K X.mg cs bs) (ZD : DZ X.K X.mg (cs 10)) (O : OE X.prog X.w X.K X.mg X.base "InvalidNumber" (cs 0) fI fdI) (N : ND X.K) (M : Amb X Tb c Pa) (L : LamS X.env.scope scope)
    (m1 : WF.th i1 v1 k1 t1 ∈ fs) (m2 : WF.th i2 v2 k2 t2 ∈ fs) (kb1 : KB k1) (kb2 : KB k2) (o1 : PyData.strOk t1 = true) (o2 : PyData.strOk t2 = true)
    (hgl : ∀ A outer s H E f c', Gl (lamCx X A outer s H E scope f c') "Ratio") (ha : ∀ A outer s H E f c', PE (lamCx X A outer s H E scope f c') (.Name xa p1) (tVar i1)) (hb : ∀ A outer s H E f c', PE (lamCx X A outer s H E scope f c') (.Name xb p2) (tVar i2))
    (hdef : defaultsOf params X.env = ([], [])) (hbind : ∀ (q : Str) (cl : List (Str × Addr)) (pm cv ctv : Value), bindArgs (PySem.W.kla_fn "<lambda>" q params (.Call (.Name "Ratio" p3) [.Name xa p1, .Name xb p2] [] p4) scope cl pm cv ctv) ⟨[], []⟩ = pure []) :
    CD X (.Call (.Name "_law_caught" p) [.Lambda params (.Call (.Name "Ratio" p3) [.Name xa p1, .Name xb p2] [] p4) scope lpos] [] pos) (GW C a fs) Tb (mdueT k1 t1 k2 t2) := by
  by_cases w1 : ∃ i, k1 = .whole i
  · obtain ⟨i, rfl⟩ := w1
    by_cases w2 : ∃ j, k2 = .whole j
    · obtain ⟨j, rfl⟩ := w2
      by_cases hj : j = 0
      · subst hj
        exact cd_zero T Z N M GW.gn ⟨trivial, trivial⟩ L (fun A outer s' H E f c' hq => pz_make (X := lamCx X A outer s' H E scope f c') T.M (zq_ini T ZD) PT0 T.b2 (hq.mono (by decide)) (hgl A outer s' H E f c') T.rc.mgC GW.gs (ti_w m1 (ha A outer s' H E f c')) (ti_w m2 (hb A outer s' H E f c'))) hdef hbind
      · have e : mdueT (.whole i) t1 (.whole j) t2 = [] := by
          show (if j = 0 then ["DividedByZero", "()"] else [] : List PySem.Str) = []
          rw [if_neg hj]
        rw [e]
        exact cd_told (n := PN) T Z N M GW.gn ⟨trivial, trivial, hj, by decide⟩ (by decide) L (fun A outer s' H E f c' hq => pq_make (X := lamCx X A outer s' H E scope f c') (n := PN) T.M (ok_init T) T.b2 (hq.mono (by decide)) (hgl A outer s' H E f c') T.rc.mgC GW.gs (ti_w m1 (ha A outer s' H E f c')) (ti_w m2 (hb A outer s' H E f c')) (kb_nat kb1) (kb_nat kb2)) hdef hbind
    · have w2' : ∀ j, k2 ≠ .whole j := fun j e => w2 ⟨j, e⟩
      have e : mdueT (.whole i) t1 k2 t2 = [cnm 0, t2] := by
        cases k2 with
        | whole j => exact absurd rfl (w2' j)
        | num n q => rfl
        | other => rfl
      rw [e]
      exact cd_wrong T Z N M GW.gn (by decide) (fun v => rfl) ⟨trivial, trivial⟩ o2 L (fun A outer s' H E f c' hq => pw_make2 (X := lamCx X A outer s' H E scope f c') T O PT0 (hq.mono (by decide)) (hgl A outer s' H E f c') GW.gs (tv_w m1 (ha A outer s' H E f c')) (tv_w m2 (hb A outer s' H E f c')) w2') hdef hbind
  · have w1' : ∀ j, k1 ≠ .whole j := fun j e => w1 ⟨j, e⟩
    have e : mdueT k1 t1 k2 t2 = [cnm 0, t1] := by
      cases k1 with
      | whole j => exact absurd rfl (w1' j)
      | num n q => rfl
      | other => rfl
    rw [e]
    exact cd_wrong T Z N M GW.gn (by decide) (fun v => rfl) ⟨trivial, trivial⟩ o1 L (fun A outer s' H E f c' hq => pw_make1 (X := lamCx X A outer s' H E scope f c') T O PT0 (hq.mono (by decide)) (hgl A outer s' H E f c') GW.gs (tv_w m1 (ha A outer s' H E f c')) (tv_w m2 (hb A outer s' H E f c')) w1') hdef hbind
end
end T06

/-! What is caught, by kinds of things: quotients, powers, reading. -/
namespace T06
open PySem PySem.Spec PyProof.Rows L2 SF SQ LamX SFT L2H
section
variable {X : Cx} {C a : Addr} {cs bs : Nat → Addr} {Tb : List (Addr × Str)} {c Pa : Addr} {params : Arguments} {scope : Scope} {p lpos pos : Pos} {fs : List WF} {i0 i1 i2 : Nat} {v1 v2 : V} {k1 k2 : TK} {t1 t2 : PySem.Str} {p1 p2 p3 p4 p5 p6 p7 : Pos} {xa xb xo : Str} {fI : Addr} {fdI : FuncData} {b0 : Addr} {n : Nat} {q : Rat}

theorem c_makeK (T : Tx X.K X.mg C) (Z : CErr X.K X.mg cs bs) (ZD : DZ X.K X.mg (cs 10)) (O : OE X.prog X.w X.K X.mg X.base "InvalidNumber" (cs 0) fI fdI) (N : ND X.K) (M : Amb X Tb c Pa) (L : LamS X.env.scope scope) (m1 : WF.th i1 v1 k1 t1 ∈ fs) (kb1 : KB k1) (o1 : PyData.strOk t1 = true) (m2 : WF.th i2 v2 k2 t2 ∈ fs) (kb2 : KB k2) (o2 : PyData.strOk t2 = true) (hgl : ∀ A outer s H E f c', Gl (lamCx X A outer s H E scope f c') "Ratio") (ha : ∀ A outer s H E f c', PE (lamCx X A outer s H E scope f c') (.Name xa p1) (tVar i1)) (hb : ∀ A outer s H E f c', PE (lamCx X A outer s H E scope f c') (.Name xb p2) (tVar i2))
    (hdef : defaultsOf params X.env = ([], [])) (hbind : ∀ (q : Str) (cl : List (Str × Addr)) (pm cv ctv : Value), bindArgs (PySem.W.kla_fn "<lambda>" q params (.Call (.Name "Ratio" p3) [] [⟨some "bottom", .Name xb p2, p5⟩, ⟨some "top", .Name xa p1, p6⟩] p4) scope cl pm cv ctv) ⟨[], []⟩ = pure []) :
    CD X (.Call (.Name "_law_caught" p) [.Lambda params (.Call (.Name "Ratio" p3) [] [⟨some "bottom", .Name xb p2, p5⟩, ⟨some "top", .Name xa p1, p6⟩] p4) scope lpos] [] pos) (GW C a fs) Tb (mdueT k1 t1 k2 t2) := by
  by_cases w1 : ∃ i, k1 = .whole i
  · obtain ⟨i, rfl⟩ := w1
    by_cases w2 : ∃ j, k2 = .whole j
    · obtain ⟨j, rfl⟩ := w2
      by_cases hj : j = 0
      · subst hj
        exact cd_zero T Z N M GW.gn ⟨trivial, trivial⟩ L (fun A outer s' H E f c' hq => pz_makeK (X := (lamCx X A outer s' H E scope f c')) T ZD PT0 (hq.mono (by decide)) (hgl A outer s' H E f c') GW.gs (ti_w m1 (ha A outer s' H E f c')) (ti_w m2 (hb A outer s' H E f c'))) hdef hbind
      · have e : mdueT (.whole i) t1 (.whole j) t2 = [] := by
          show (if j = 0 then ["DividedByZero", "()"] else [] : List PySem.Str) = []
          rw [if_neg hj]
        rw [e]
        exact cd_told (n := PN) T Z N M GW.gn ⟨trivial, trivial, hj, by decide⟩ (by decide) L (fun A outer s' H E f c' hq => pq_makeK (X := (lamCx X A outer s' H E scope f c')) (n := PN) T (hq.mono (by decide)) (hgl A outer s' H E f c') GW.gs (ti_w m1 (ha A outer s' H E f c')) (ti_w m2 (hb A outer s' H E f c')) (kb_nat kb1) (kb_nat kb2)) hdef hbind
    · have w2' : ∀ j, k2 ≠ .whole j := fun j e => w2 ⟨j, e⟩
      have e : mdueT (.whole i) t1 k2 t2 = [cnm 0, t2] := by
        cases k2 with
        | whole j => exact absurd rfl (w2' j)
        | num n q => rfl
        | other => rfl
      rw [e]
      exact cd_wrong T Z N M GW.gn (by decide) (fun v => rfl) ⟨trivial, trivial⟩ o2 L (fun A outer s' H E f c' hq => pw_makeK2 (X := (lamCx X A outer s' H E scope f c')) T O PT0 (hq.mono (by decide)) (hgl A outer s' H E f c') GW.gs (tv_w m1 (ha A outer s' H E f c')) (tv_w m2 (hb A outer s' H E f c')) w2') hdef hbind
  · have w1' : ∀ j, k1 ≠ .whole j := fun j e => w1 ⟨j, e⟩
    have e : mdueT k1 t1 k2 t2 = [cnm 0, t1] := by
      cases k1 with
      | whole j => exact absurd rfl (w1' j)
      | num n q => rfl
      | other => rfl
    rw [e]
    exact cd_wrong T Z N M GW.gn (by decide) (fun v => rfl) ⟨trivial, trivial⟩ o1 L (fun A outer s' H E f c' hq => pw_makeK1 (X := (lamCx X A outer s' H E scope f c')) T O PT0 (hq.mono (by decide)) (hgl A outer s' H E f c') GW.gs (tv_w m1 (ha A outer s' H E f c')) (tv_w m2 (hb A outer s' H E f c')) w1') hdef hbind
theorem c_make1 (T : Tx X.K X.mg C) (Z : CErr X.K X.mg cs bs) (ZD : DZ X.K X.mg (cs 10)) (O : OE X.prog X.w X.K X.mg X.base "InvalidNumber" (cs 0) fI fdI) (N : ND X.K) (M : Amb X Tb c Pa) (L : LamS X.env.scope scope) (m1 : WF.th i1 v1 k1 t1 ∈ fs) (kb1 : KB k1) (o1 : PyData.strOk t1 = true) (hgl : ∀ A outer s H E f c', Gl (lamCx X A outer s H E scope f c') "Ratio") (ha : ∀ A outer s H E f c', PE (lamCx X A outer s H E scope f c') (.Name xa p1) (tVar i1))
    (hdef : defaultsOf params X.env = ([], [])) (hbind : ∀ (q : Str) (cl : List (Str × Addr)) (pm cv ctv : Value), bindArgs (PySem.W.kla_fn "<lambda>" q params (.Call (.Name "Ratio" p3) [.Name xa p1] [] p4) scope cl pm cv ctv) ⟨[], []⟩ = pure []) :
    CD X (.Call (.Name "_law_caught" p) [.Lambda params (.Call (.Name "Ratio" p3) [.Name xa p1] [] p4) scope lpos] [] pos) (GW C a fs) Tb (mdueT k1 t1 (.whole 1) t2) := by
  by_cases w1 : ∃ i, k1 = .whole i
  · obtain ⟨i, rfl⟩ := w1
    have e : mdueT (.whole i) t1 (.whole 1) t2 = [] := rfl
    rw [e]
    exact cd_told (n := PN) T Z N M GW.gn ⟨trivial, by decide⟩ (by decide) L (fun A outer s' H E f c' hq => pq_make1 (X := (lamCx X A outer s' H E scope f c')) (n := PN) T.M (ok_init T) T.b1 T.vv (hq.mono (by decide)) (hgl A outer s' H E f c') T.rc.mgC (ti_w m1 (ha A outer s' H E f c')) (kb_nat kb1) (by decide)) hdef hbind
  · have w1' : ∀ j, k1 ≠ .whole j := fun j e => w1 ⟨j, e⟩
    have e : mdueT k1 t1 (.whole 1) t2 = [cnm 0, t1] := by
      cases k1 with
      | whole j => exact absurd rfl (w1' j)
      | num n q => rfl
      | other => rfl
    rw [e]
    exact cd_wrong T Z N M GW.gn (by decide) (fun v => rfl) trivial o1 L (fun A outer s' H E f c' hq => pw_make (X := (lamCx X A outer s' H E scope f c')) T O PT0 (hq.mono (by decide)) (hgl A outer s' H E f c') (tv_w m1 (ha A outer s' H E f c')) w1') hdef hbind
theorem c_over (T : Tx X.K X.mg C) (Z : CErr X.K X.mg cs bs) (ZD : DZ X.K X.mg (cs 10)) (O : OE X.prog X.w X.K X.mg X.base "InvalidNumber" (cs 0) fI fdI) (N : ND X.K) (M : Amb X Tb c Pa) (L : LamS X.env.scope scope) (m0 : WF.fr i0 b0 n q ∈ fs) (hn : n ≤ 8) (m1 : WF.th i1 v1 k1 t1 ∈ fs) (kb1 : KB k1) (o1 : PyData.strOk t1 = true) (ho : ∀ A outer s H E f c', PE (lamCx X A outer s H E scope f c') (.Name xo p5) (tVar i0)) (ha : ∀ A outer s H E f c', PE (lamCx X A outer s H E scope f c') (.Name xa p1) (tVar i1)) {pl : Around → List PySem.Env → Shared → Hp → XK → Addr → Addr → Sem Bool} (ht : ∀ A outer s' H E f c', eval (.Call (.Attribute (.Name xo p5) "over" p6) [.Name xa p1] [] p4) (lamCx X A outer s' H E scope f c').env = (do
      let ov ← eval (.Name xo p5) (lamCx X A outer s' H E scope f c').env
      standAt p6.atName
      let (f_1, first) ← holding [ov] (getMethod ov "over" (pl A outer s' H E f c'))
      callWith p4 f_1 first (backTo p4 (starEach [.Name xa p1] (lamCx X A outer s' H E scope f c').env)) (backToKw p4 (keywordEach [] (lamCx X A outer s' H E scope f c').env))))
    (hdef : defaultsOf params X.env = ([], [])) (hbind : ∀ (q : Str) (cl : List (Str × Addr)) (pm cv ctv : Value), bindArgs (PySem.W.kla_fn "<lambda>" q params (.Call (.Attribute (.Name xo p5) "over" p6) [.Name xa p1] [] p4) scope cl pm cv ctv) ⟨[], []⟩ = pure []) :
    CD X (.Call (.Name "_law_caught" p) [.Lambda params (.Call (.Attribute (.Name xo p5) "over" p6) [.Name xa p1] [] p4) scope lpos] [] pos) (GW C a fs) Tb (odueT k1 t1) := by
  have lm : LIM = 8900 := rfl
  cases k1 with
  | whole i =>
    by_cases hi : i = 0
    · subst hi
      exact cd_zero T Z N M GW.gn ⟨trivial, trivial, by omega, by decide⟩ L (fun A outer s' H E f c' hq => pz_over (X := (lamCx X A outer s' H E scope f c')) (ht := ht A outer s' H E f c') (k2 := false) T ZD PT0 (hq.mono (by decide)) GW.gs (tq_w m0 (ho A outer s' H E f c')) (pq_eq (tw_w (n := PN) m1 (kb_nat kb1) (by decide) (ha A outer s' H E f c')) (by rfl))) hdef hbind
    · have e : odueT (.whole i) t1 = [] := by
        show (if i = 0 then ["DividedByZero", "()"] else [] : List PySem.Str) = []
        rw [if_neg hi]
      have hr : ((i : Int) : Rat) ≠ 0 := fun z => hi (by simpa using z)
      rw [e]
      exact cd_told (n := gM n PN) T Z N M GW.gn ⟨trivial, trivial, hr, by show n + PN ≤ 8900; unfold PN; omega⟩ (by show n + PN ≤ 8900; unfold PN; omega) L (fun A outer s' H E f c' hq => pq_over (X := (lamCx X A outer s' H E scope f c')) (ht := ht A outer s' H E f c') (k2 := false) T.rc.cl (DOver T) (mOver T) (hq.mono (by decide)) GW.gs (tq_w m0 (ho A outer s' H E f c')) (tw_w (n := PN) m1 (kb_nat kb1) (by decide) (ha A outer s' H E f c'))) hdef hbind
  | num m r =>
    have hm : m ≤ 8 := kb1
    by_cases hr : r = 0
    · have e : odueT (.num m r) t1 = (["DividedByZero", "()"] : List PySem.Str) := by
        show (if r = 0 then ["DividedByZero", "()"] else [] : List PySem.Str) = _
        rw [if_pos hr]
      rw [e]
      exact cd_zero T Z N M GW.gn ⟨trivial, trivial, by omega, by omega⟩ L (fun A outer s' H E f c' hq => pz_over (X := (lamCx X A outer s' H E scope f c')) (ht := ht A outer s' H E f c') (k2 := true) T ZD PT0 (hq.mono (by decide)) GW.gs (tq_w m0 (ho A outer s' H E f c')) (pq_eq (tn_w m1 (ha A outer s' H E f c')) hr)) hdef hbind
    · have e : odueT (.num m r) t1 = [] := by
        show (if r = 0 then ["DividedByZero", "()"] else [] : List PySem.Str) = []
        rw [if_neg hr]
      rw [e]
      exact cd_told (n := gM n m) T Z N M GW.gn ⟨trivial, trivial, hr, by show n + m ≤ 8900; omega⟩ (by show n + m ≤ 8900; omega) L (fun A outer s' H E f c' hq => pq_over (X := (lamCx X A outer s' H E scope f c')) (ht := ht A outer s' H E f c') (k2 := true) T.rc.cl (DOver T) (mOver T) (hq.mono (by decide)) GW.gs (tq_w m0 (ho A outer s' H E f c')) (tn_w m1 (ha A outer s' H E f c'))) hdef hbind
  | other =>
    have e : odueT .other t1 = [cnm 0, t1] := rfl
    rw [e]
    exact cd_wrong T Z N M GW.gn (by decide) (fun v => rfl) ⟨trivial, trivial⟩ o1 L (fun A outer s' H E f c' hq => pw_over (X := (lamCx X A outer s' H E scope f c')) (ht := ht A outer s' H E f c') T O PT0 (hq.mono (by decide)) GW.gs (tq_w m0 (ho A outer s' H E f c')) (tv_w m1 (ha A outer s' H E f c'))) hdef hbind
theorem c_overK (T : Tx X.K X.mg C) (Z : CErr X.K X.mg cs bs) (ZD : DZ X.K X.mg (cs 10)) (O : OE X.prog X.w X.K X.mg X.base "InvalidNumber" (cs 0) fI fdI) (N : ND X.K) (M : Amb X Tb c Pa) (L : LamS X.env.scope scope) (m0 : WF.fr i0 b0 n q ∈ fs) (hn : n ≤ 8) (m1 : WF.th i1 v1 k1 t1 ∈ fs) (kb1 : KB k1) (o1 : PyData.strOk t1 = true) (ho : ∀ A outer s H E f c', PE (lamCx X A outer s H E scope f c') (.Name xo p5) (tVar i0)) (ha : ∀ A outer s H E f c', PE (lamCx X A outer s H E scope f c') (.Name xa p1) (tVar i1)) {pl : Around → List PySem.Env → Shared → Hp → XK → Addr → Addr → Sem Bool} (ht : ∀ A outer s' H E f c', eval (.Call (.Attribute (.Name xo p5) "over" p6) [] [⟨some "other", .Name xa p1, p7⟩] p4) (lamCx X A outer s' H E scope f c').env = (do
      let ov ← eval (.Name xo p5) (lamCx X A outer s' H E scope f c').env
      standAt p6.atName
      let (f_1, first) ← holding [ov] (getMethod ov "over" (pl A outer s' H E f c'))
      callWith p4 f_1 first (backTo p4 (starEach [] (lamCx X A outer s' H E scope f c').env)) (backToKw p4 (keywordEach [⟨some "other", .Name xa p1, p7⟩] (lamCx X A outer s' H E scope f c').env))))
    (hdef : defaultsOf params X.env = ([], [])) (hbind : ∀ (q : Str) (cl : List (Str × Addr)) (pm cv ctv : Value), bindArgs (PySem.W.kla_fn "<lambda>" q params (.Call (.Attribute (.Name xo p5) "over" p6) [] [⟨some "other", .Name xa p1, p7⟩] p4) scope cl pm cv ctv) ⟨[], []⟩ = pure []) :
    CD X (.Call (.Name "_law_caught" p) [.Lambda params (.Call (.Attribute (.Name xo p5) "over" p6) [] [⟨some "other", .Name xa p1, p7⟩] p4) scope lpos] [] pos) (GW C a fs) Tb (odueT k1 t1) := by
  have lm : LIM = 8900 := rfl
  cases k1 with
  | whole i =>
    by_cases hi : i = 0
    · subst hi
      exact cd_zero T Z N M GW.gn ⟨trivial, trivial, by omega, by decide⟩ L (fun A outer s' H E f c' hq => pz_overK (X := (lamCx X A outer s' H E scope f c')) (ht := ht A outer s' H E f c') (k2 := false) T ZD PT0 (hq.mono (by decide)) GW.gs (tq_w m0 (ho A outer s' H E f c')) (pq_eq (tw_w (n := PN) m1 (kb_nat kb1) (by decide) (ha A outer s' H E f c')) (by rfl))) hdef hbind
    · have e : odueT (.whole i) t1 = [] := by
        show (if i = 0 then ["DividedByZero", "()"] else [] : List PySem.Str) = []
        rw [if_neg hi]
      have hr : ((i : Int) : Rat) ≠ 0 := fun z => hi (by simpa using z)
      rw [e]
      exact cd_told (n := gM n PN) T Z N M GW.gn ⟨trivial, trivial, hr, by show n + PN ≤ 8900; unfold PN; omega⟩ (by show n + PN ≤ 8900; unfold PN; omega) L (fun A outer s' H E f c' hq => pq_overK (X := (lamCx X A outer s' H E scope f c')) (ht := ht A outer s' H E f c') (k2 := false) T (hq.mono (by decide)) GW.gs (tq_w m0 (ho A outer s' H E f c')) (tw_w (n := PN) m1 (kb_nat kb1) (by decide) (ha A outer s' H E f c'))) hdef hbind
  | num m r =>
    have hm : m ≤ 8 := kb1
    by_cases hr : r = 0
    · have e : odueT (.num m r) t1 = (["DividedByZero", "()"] : List PySem.Str) := by
        show (if r = 0 then ["DividedByZero", "()"] else [] : List PySem.Str) = _
        rw [if_pos hr]
      rw [e]
      exact cd_zero T Z N M GW.gn ⟨trivial, trivial, by omega, by omega⟩ L (fun A outer s' H E f c' hq => pz_overK (X := (lamCx X A outer s' H E scope f c')) (ht := ht A outer s' H E f c') (k2 := true) T ZD PT0 (hq.mono (by decide)) GW.gs (tq_w m0 (ho A outer s' H E f c')) (pq_eq (tn_w m1 (ha A outer s' H E f c')) hr)) hdef hbind
    · have e : odueT (.num m r) t1 = [] := by
        show (if r = 0 then ["DividedByZero", "()"] else [] : List PySem.Str) = []
        rw [if_neg hr]
      rw [e]
      exact cd_told (n := gM n m) T Z N M GW.gn ⟨trivial, trivial, hr, by show n + m ≤ 8900; omega⟩ (by show n + m ≤ 8900; omega) L (fun A outer s' H E f c' hq => pq_overK (X := (lamCx X A outer s' H E scope f c')) (ht := ht A outer s' H E f c') (k2 := true) T (hq.mono (by decide)) GW.gs (tq_w m0 (ho A outer s' H E f c')) (tn_w m1 (ha A outer s' H E f c'))) hdef hbind
  | other =>
    have e : odueT .other t1 = [cnm 0, t1] := rfl
    rw [e]
    exact cd_wrong T Z N M GW.gn (by decide) (fun v => rfl) ⟨trivial, trivial⟩ o1 L (fun A outer s' H E f c' hq => pw_overK (X := (lamCx X A outer s' H E scope f c')) (ht := ht A outer s' H E f c') T O PT0 (hq.mono (by decide)) GW.gs (tq_w m0 (ho A outer s' H E f c')) (tv_w m1 (ha A outer s' H E f c'))) hdef hbind
theorem c_power (T : Tx X.K X.mg C) (Z : CErr X.K X.mg cs bs) (ZD : DZ X.K X.mg (cs 10)) (O : OE X.prog X.w X.K X.mg X.base "InvalidCount" (cs 2) fI fdI) (N : ND X.K) (M : Amb X Tb c Pa) (L : LamS X.env.scope scope) (m0 : WF.fr i0 b0 n q ∈ fs) (hn : n ≤ 8) (m1 : WF.th i1 v1 k1 t1 ∈ fs) (kb1 : KB k1) (o1 : PyData.strOk t1 = true) (ho : ∀ A outer s H E f c', PE (lamCx X A outer s H E scope f c') (.Name xo p5) (tVar i0)) (ha : ∀ A outer s H E f c', PE (lamCx X A outer s H E scope f c') (.Name xa p1) (tVar i1)) {pl : Around → List PySem.Env → Shared → Hp → XK → Addr → Addr → Sem Bool} (ht : ∀ A outer s' H E f c', eval (.Call (.Attribute (.Name xo p5) "power" p6) [.Name xa p1] [] p4) (lamCx X A outer s' H E scope f c').env = (do
      let ov ← eval (.Name xo p5) (lamCx X A outer s' H E scope f c').env
      standAt p6.atName
      let (f_1, first) ← holding [ov] (getMethod ov "power" (pl A outer s' H E f c'))
      callWith p4 f_1 first (backTo p4 (starEach [.Name xa p1] (lamCx X A outer s' H E scope f c').env)) (backToKw p4 (keywordEach [] (lamCx X A outer s' H E scope f c').env))))
    (hdef : defaultsOf params X.env = ([], [])) (hbind : ∀ (q : Str) (cl : List (Str × Addr)) (pm cv ctv : Value), bindArgs (PySem.W.kla_fn "<lambda>" q params (.Call (.Attribute (.Name xo p5) "power" p6) [.Name xa p1] [] p4) scope cl pm cv ctv) ⟨[], []⟩ = pure []) :
    CD X (.Call (.Name "_law_caught" p) [.Lambda params (.Call (.Attribute (.Name xo p5) "power" p6) [.Name xa p1] [] p4) scope lpos] [] pos) (GW C a fs) Tb (pdueT (decide (q = 0)) k1 t1) := by
  have lm : LIM = 8900 := rfl
  cases k1 with
  | whole i =>
    by_cases hi : i < -20 ∨ i > 20
    · have e : pdueT (decide (q = 0)) (.whole i) t1 = [cnm 2, t1] := by
        show (if i < -20 ∨ i > 20 then ["InvalidCount", t1] else _ : List PySem.Str) = _
        rw [if_pos hi]
        rfl
      rw [e]
      exact cd_wrong T Z N M GW.gn (by decide) (fun v => rfl) ⟨trivial, trivial⟩ o1 L (fun A outer s' H E f c' hq => pw_power (X := (lamCx X A outer s' H E scope f c')) (ht := ht A outer s' H E f c') T O PT0 (hq.mono (by decide)) GW.gs (show NoExp (.whole i) from hi) (tq_w m0 (ho A outer s' H E f c')) (tv_w m1 (ha A outer s' H E f c'))) hdef hbind
    · by_cases hz : q = 0
      · by_cases hn' : i < 0
        · have e : pdueT (decide (q = 0)) (.whole i) t1 = (["DividedByZero", "()"] : List PySem.Str) := by
            show (if i < -20 ∨ i > 20 then ["InvalidCount", t1] else if decide (q = 0) = true ∧ i < 0 then ["DividedByZero", "()"] else [] : List PySem.Str) = _
            rw [if_neg hi, if_pos ⟨decide_eq_true hz, hn'⟩]
          rw [e]
          exact cd_zero T Z N M GW.gn ⟨trivial, trivial, by omega, hn', by omega⟩ L (fun A outer s' H E f c' hq => pz_power (X := (lamCx X A outer s' H E scope f c')) (ht := ht A outer s' H E f c') T ZD PT0 (hq.mono (by decide)) GW.gs (pq_eq (tq_w m0 (ho A outer s' H E f c')) hz) (ti_w m1 (ha A outer s' H E f c'))) hdef hbind
        · have e : pdueT (decide (q = 0)) (.whole i) t1 = [] := by
            show (if i < -20 ∨ i > 20 then ["InvalidCount", t1] else if decide (q = 0) = true ∧ i < 0 then ["DividedByZero", "()"] else [] : List PySem.Str) = _
            rw [if_neg hi, if_neg (fun h => hn' h.2)]
          have hb : n * i.natAbs ≤ 8 * 20 := Nat.mul_le_mul hn (by omega)
          rw [e]
          exact cd_told (n := n * i.natAbs + 1) T Z N M GW.gn ⟨trivial, trivial, by omega, by omega, .inr (by omega), by omega, by omega⟩ (by omega) L (fun A outer s' H E f c' hq => pq_power (X := (lamCx X A outer s' H E scope f c')) (ht := ht A outer s' H E f c') T.rc.cl (DPower T) (mPower T) (hq.mono (by decide)) GW.gs (tq_w m0 (ho A outer s' H E f c')) (ti_w m1 (ha A outer s' H E f c'))) hdef hbind
      · have e : pdueT (decide (q = 0)) (.whole i) t1 = [] := by
          show (if i < -20 ∨ i > 20 then ["InvalidCount", t1] else if decide (q = 0) = true ∧ i < 0 then ["DividedByZero", "()"] else [] : List PySem.Str) = _
          rw [if_neg hi, if_neg (fun h => hz (of_decide_eq_true h.1))]
        have hb : n * i.natAbs ≤ 8 * 20 := Nat.mul_le_mul hn (by omega)
        rw [e]
        exact cd_told (n := n * i.natAbs + 1) T Z N M GW.gn ⟨trivial, trivial, by omega, by omega, .inl hz, by omega, by omega⟩ (by omega) L (fun A outer s' H E f c' hq => pq_power (X := (lamCx X A outer s' H E scope f c')) (ht := ht A outer s' H E f c') T.rc.cl (DPower T) (mPower T) (hq.mono (by decide)) GW.gs (tq_w m0 (ho A outer s' H E f c')) (ti_w m1 (ha A outer s' H E f c'))) hdef hbind
  | num m r =>
    have e : pdueT (decide (q = 0)) (.num m r) t1 = [cnm 2, t1] := rfl
    rw [e]
    exact cd_wrong T Z N M GW.gn (by decide) (fun v => rfl) ⟨trivial, trivial⟩ o1 L (fun A outer s' H E f c' hq => pw_power (X := (lamCx X A outer s' H E scope f c')) (ht := ht A outer s' H E f c') T O PT0 (hq.mono (by decide)) GW.gs (show NoExp (.num m r) from trivial) (tq_w m0 (ho A outer s' H E f c')) (tv_w m1 (ha A outer s' H E f c'))) hdef hbind
  | other =>
    have e : pdueT (decide (q = 0)) .other t1 = [cnm 2, t1] := rfl
    rw [e]
    exact cd_wrong T Z N M GW.gn (by decide) (fun v => rfl) ⟨trivial, trivial⟩ o1 L (fun A outer s' H E f c' hq => pw_power (X := (lamCx X A outer s' H E scope f c')) (ht := ht A outer s' H E f c') T O PT0 (hq.mono (by decide)) GW.gs (show NoExp .other from trivial) (tq_w m0 (ho A outer s' H E f c')) (tv_w m1 (ha A outer s' H E f c'))) hdef hbind
theorem c_powerK (T : Tx X.K X.mg C) (Z : CErr X.K X.mg cs bs) (ZD : DZ X.K X.mg (cs 10)) (O : OE X.prog X.w X.K X.mg X.base "InvalidCount" (cs 2) fI fdI) (N : ND X.K) (M : Amb X Tb c Pa) (L : LamS X.env.scope scope) (m0 : WF.fr i0 b0 n q ∈ fs) (hn : n ≤ 8) (m1 : WF.th i1 v1 k1 t1 ∈ fs) (kb1 : KB k1) (o1 : PyData.strOk t1 = true) (ho : ∀ A outer s H E f c', PE (lamCx X A outer s H E scope f c') (.Name xo p5) (tVar i0)) (ha : ∀ A outer s H E f c', PE (lamCx X A outer s H E scope f c') (.Name xa p1) (tVar i1)) {pl : Around → List PySem.Env → Shared → Hp → XK → Addr → Addr → Sem Bool} (ht : ∀ A outer s' H E f c', eval (.Call (.Attribute (.Name xo p5) "power" p6) [] [⟨some "exponent", .Name xa p1, p7⟩] p4) (lamCx X A outer s' H E scope f c').env = (do
      let ov ← eval (.Name xo p5) (lamCx X A outer s' H E scope f c').env
      standAt p6.atName
      let (f_1, first) ← holding [ov] (getMethod ov "power" (pl A outer s' H E f c'))
      callWith p4 f_1 first (backTo p4 (starEach [] (lamCx X A outer s' H E scope f c').env)) (backToKw p4 (keywordEach [⟨some "exponent", .Name xa p1, p7⟩] (lamCx X A outer s' H E scope f c').env))))
    (hdef : defaultsOf params X.env = ([], [])) (hbind : ∀ (q : Str) (cl : List (Str × Addr)) (pm cv ctv : Value), bindArgs (PySem.W.kla_fn "<lambda>" q params (.Call (.Attribute (.Name xo p5) "power" p6) [] [⟨some "exponent", .Name xa p1, p7⟩] p4) scope cl pm cv ctv) ⟨[], []⟩ = pure []) :
    CD X (.Call (.Name "_law_caught" p) [.Lambda params (.Call (.Attribute (.Name xo p5) "power" p6) [] [⟨some "exponent", .Name xa p1, p7⟩] p4) scope lpos] [] pos) (GW C a fs) Tb (pdueT (decide (q = 0)) k1 t1) := by
  have lm : LIM = 8900 := rfl
  cases k1 with
  | whole i =>
    by_cases hi : i < -20 ∨ i > 20
    · have e : pdueT (decide (q = 0)) (.whole i) t1 = [cnm 2, t1] := by
        show (if i < -20 ∨ i > 20 then ["InvalidCount", t1] else _ : List PySem.Str) = _
        rw [if_pos hi]
        rfl
      rw [e]
      exact cd_wrong T Z N M GW.gn (by decide) (fun v => rfl) ⟨trivial, trivial⟩ o1 L (fun A outer s' H E f c' hq => pw_powerK (X := (lamCx X A outer s' H E scope f c')) (ht := ht A outer s' H E f c') T O PT0 (hq.mono (by decide)) GW.gs (show NoExp (.whole i) from hi) (tq_w m0 (ho A outer s' H E f c')) (tv_w m1 (ha A outer s' H E f c'))) hdef hbind
    · by_cases hz : q = 0
      · by_cases hn' : i < 0
        · have e : pdueT (decide (q = 0)) (.whole i) t1 = (["DividedByZero", "()"] : List PySem.Str) := by
            show (if i < -20 ∨ i > 20 then ["InvalidCount", t1] else if decide (q = 0) = true ∧ i < 0 then ["DividedByZero", "()"] else [] : List PySem.Str) = _
            rw [if_neg hi, if_pos ⟨decide_eq_true hz, hn'⟩]
          rw [e]
          exact cd_zero T Z N M GW.gn ⟨trivial, trivial, by omega, hn', by omega⟩ L (fun A outer s' H E f c' hq => pz_powerK (X := (lamCx X A outer s' H E scope f c')) (ht := ht A outer s' H E f c') T ZD PT0 (hq.mono (by decide)) GW.gs (pq_eq (tq_w m0 (ho A outer s' H E f c')) hz) (ti_w m1 (ha A outer s' H E f c'))) hdef hbind
        · have e : pdueT (decide (q = 0)) (.whole i) t1 = [] := by
            show (if i < -20 ∨ i > 20 then ["InvalidCount", t1] else if decide (q = 0) = true ∧ i < 0 then ["DividedByZero", "()"] else [] : List PySem.Str) = _
            rw [if_neg hi, if_neg (fun h => hn' h.2)]
          have hb : n * i.natAbs ≤ 8 * 20 := Nat.mul_le_mul hn (by omega)
          rw [e]
          exact cd_told (n := n * i.natAbs + 1) T Z N M GW.gn ⟨trivial, trivial, by omega, by omega, .inr (by omega), by omega, by omega⟩ (by omega) L (fun A outer s' H E f c' hq => pq_powerK (X := (lamCx X A outer s' H E scope f c')) (ht := ht A outer s' H E f c') T (hq.mono (by decide)) GW.gs (tq_w m0 (ho A outer s' H E f c')) (ti_w m1 (ha A outer s' H E f c'))) hdef hbind
      · have e : pdueT (decide (q = 0)) (.whole i) t1 = [] := by
          show (if i < -20 ∨ i > 20 then ["InvalidCount", t1] else if decide (q = 0) = true ∧ i < 0 then ["DividedByZero", "()"] else [] : List PySem.Str) = _
          rw [if_neg hi, if_neg (fun h => hz (of_decide_eq_true h.1))]
        have hb : n * i.natAbs ≤ 8 * 20 := Nat.mul_le_mul hn (by omega)
        rw [e]
        exact cd_told (n := n * i.natAbs + 1) T Z N M GW.gn ⟨trivial, trivial, by omega, by omega, .inl hz, by omega, by omega⟩ (by omega) L (fun A outer s' H E f c' hq => pq_powerK (X := (lamCx X A outer s' H E scope f c')) (ht := ht A outer s' H E f c') T (hq.mono (by decide)) GW.gs (tq_w m0 (ho A outer s' H E f c')) (ti_w m1 (ha A outer s' H E f c'))) hdef hbind
  | num m r =>
    have e : pdueT (decide (q = 0)) (.num m r) t1 = [cnm 2, t1] := rfl
    rw [e]
    exact cd_wrong T Z N M GW.gn (by decide) (fun v => rfl) ⟨trivial, trivial⟩ o1 L (fun A outer s' H E f c' hq => pw_powerK (X := (lamCx X A outer s' H E scope f c')) (ht := ht A outer s' H E f c') T O PT0 (hq.mono (by decide)) GW.gs (show NoExp (.num m r) from trivial) (tq_w m0 (ho A outer s' H E f c')) (tv_w m1 (ha A outer s' H E f c'))) hdef hbind
  | other =>
    have e : pdueT (decide (q = 0)) .other t1 = [cnm 2, t1] := rfl
    rw [e]
    exact cd_wrong T Z N M GW.gn (by decide) (fun v => rfl) ⟨trivial, trivial⟩ o1 L (fun A outer s' H E f c' hq => pw_powerK (X := (lamCx X A outer s' H E scope f c')) (ht := ht A outer s' H E f c') T O PT0 (hq.mono (by decide)) GW.gs (show NoExp .other from trivial) (tq_w m0 (ho A outer s' H E f c')) (tv_w m1 (ha A outer s' H E f c'))) hdef hbind
end
end T06

/-! _law_right of k06. -/
namespace SQ
open PySem PySem.Spec PyProof.Rows L2 SF LamX
def NotStr (v : V) : Prop := ∀ x, v ≠ .str x
theorem gw_nil {C a : Addr} {σ : L2.St} {H : Hp} : GW C a [] σ H := fun f h => by cases h
theorem gw_cons {C a : Addr} {σ : L2.St} {H : Hp} {f : WF} {fs : List WF} (h : f.ok C σ (del H a)) (g : GW C a fs σ H) : GW C a (f :: fs) σ H := fun f' h' => by
  rcases List.mem_cons.mp h' with rfl | h'
  · exact h
  · exact g _ h'
theorem rq_off {C a p : Addr} {H : Hp} {n : Nat} {q : Rat} (hs : ∃ x y z : Int, H a = some (.lst [.int x, .int y, .int z])) (h : RQ C H p n q) : RQ C (del H a) p n q := by
  obtain ⟨x, y, z, ea⟩ := hs
  obtain ⟨⟨dx, ep⟩, sz⟩ := h
  have ne : p ≠ a := fun e => by rw [e, ea] at ep; cases ep
  exact ⟨⟨dx, by rw [del_ne ne]; exact ep⟩, sz⟩
theorem ls_off {a p : Addr} {H : Hp} {xs : List PySem.Str} (hs : ∃ x y z : Int, H a = some (.lst [.int x, .int y, .int z])) (e : H p = some (.lst (xs.map V.str))) : (del H a) p = some (.lst (xs.map V.str)) := by
  obtain ⟨x, y, z, ea⟩ := hs
  have ne : p ≠ a := fun h => by
    rw [h, ea] at e
    have w := HO.lst.inj (Option.some.inj e)
    cases xs with
    | nil => cases w
    | cons b c => cases w
  rw [del_ne ne]
  exact e
section
variable {X : Cx} {T : List (Addr × PySem.Str)} {G : L2.St → Hp → Prop} {a b : Expr} {s1 s2 : Prop} {pos : Pos} {w x : PySem.Str} {ys : List PySem.Str}
/-- true or false, behind which tables of code objects may have grown -/
def TCb (T : List (Addr × PySem.Str)) (G : L2.St → Hp → Prop) (b : Bool) (s : Prop) : TE := fun σ H Q => G σ H ∧ Tabs T H ∧ s ∧ ∀ H', ExtN H H' → Tabs T H' → Q (.bl b) H'
theorem pc_eq (hu : X.A.units + 64 < cLine) (hG : GN G) (hm : behindInMarks .Eq b = false) (ha : PE X a (TC T G w x s1)) (hb : PE X b (TL G ys s2)) (hx : [w, x].all PyData.strOk = true) (hy : ys.all PyData.strOk = true) :
    PE X (.Compare a [.Eq] [b] pos) (TCb T G (decide ([w, x] = ys)) (s1 ∧ s2)) :=
  pe_weak (pe_cmpR (op_eqD hu) ha hb hm) fun σ H Q ⟨hg, hT, ⟨h1, h2⟩, z⟩ => ⟨hg, hT, h1, fun p H1 S1 T1 e1 => ⟨hG _ _ _ hg S1, h2, fun u H2 S2 e2 =>
    ⟨_, _, .lst (SqL.of (S2 _ _ e1)) (dp_strs [w, x]), .lst (SqL.of e2) (dp_strs ys), shaped_strs hx, shaped_strs hy, by
      show Q (.bl (PyData.eqvAll ([w, x].map .str) (ys.map .str))) H2
      rw [eqv_strs]
      exact z H2 (S1.trans (ExtN.of S2)) (T1.ext S2)⟩⟩⟩
end
end SQ
namespace T06
open PySem PySem.Spec PyProof.Rows L2 SF SQ LamX SFT L2H
theorem neF {α : Type} [DecidableEq α] {x y : α} (h : x = y) : (!decide (x = y)) = false := by simp [h]
def tOne : PySem.Str := (PyData.tuple [.int 1]).shown
def t21 : PySem.Str := (PyData.tuple [.int 21]).shown
theorem okIT : PyData.strOk "InvalidText" = true := by decide +kernel
def tb1 (K : PySem.W.Frag) (c1 : Addr) : List (Addr × Str) := [(SFY.tabOf K c1, "_law_right" ++ ".<locals>." ++ "<lambda>")]
theorem tb1_u {K : PySem.W.Frag} {c1 : Addr} : ∀ p ∈ tb1 K c1, p.1 = SFY.tabOf K c1 → p.2 = "_law_right" ++ ".<locals>." ++ "<lambda>" := fun p hp _ => by
  simp only [tb1, List.mem_cons, List.not_mem_nil, or_false] at hp
  rcases hp with rfl
  rfl
theorem SrcAt.extN {s : Addr} {H H' : Hp} (h : SrcAt H s) (x : ExtN H H') : SrcAt H' s := let ⟨a, b, c, e⟩ := h; ⟨a, b, c, x _ _ e (fun ps z => by cases z)⟩
theorem ButN.but {s : Addr} {H H' : Hp} (x : But s H H') : ButN s H H' := fun b o n e _ => x b o n e
theorem tabs_but {s : Addr} {Tb : List (Addr × PySem.Str)} {H H' : Hp} (t : Tabs Tb H) (hs : SrcAt H s) (S : But s H H') : Tabs Tb H' := fun r hr => by
  obtain ⟨i, j, k, es⟩ := hs
  obtain ⟨ps, h1, h2, h3⟩ := t r hr
  have n : r.1 ≠ s := fun z => by
    rw [z, es] at h1
    cases h1
  refine ⟨ps, S _ _ n h1, h2, fun pos cv hc => ?_⟩
  obtain ⟨c, e1, e2⟩ := h3 pos cv hc
  have m : c ≠ s := fun z => by
    rw [z, es] at e2
    have w := Option.some.inj e2
    unfold CodeO at w
    cases w
  exact ⟨c, e1, S _ _ m e2⟩
section
variable {X : Cx} {C : Addr} {G : L2.St → Hp → Prop} {a e o : Expr} {t : PySem.Str} {k : TK} {s : Prop} {p1 pos p2 apos : Pos} {x1 : Nat} {v : V} {E : XK} {D fI : Addr} {fdI : FuncData}
/-- repr((e,)) -/
theorem pS_rTh (T : Tx X.K X.mg C) (hgd : X.A.guards = some []) (hr : Room 3 X.A) (hg : Gl X "repr") (ha : PE X e (TV C G k t s)) (he : starEach (e :: []) X.env = (false, eval e X.env) :: starEach [] X.env := by rfl)
    (he2 : starEach (.Tuple [e] x1 p2 :: []) X.env = (false, eval (.Tuple [e] x1 p2) X.env) :: starEach [] X.env := by rfl) (hpl : (backTo pos (starEach [] X.env)).any (·.1) = false := by rfl) : PE X (.Call (.Name "repr" p1) [.Tuple [e] x1 p2] [] pos) (TS G t s) :=
  pe_weak (pe_callB (call_rTh (k := 0) T hgd hr) hg T.rc.repr_ (by decide +kernel) (pa_cons (pe_tup (pa_cons ha pa_nil he)) pa_nil he2) (by decide) (by decide) he2 hpl) fun σ H Q ⟨hg, h1, z⟩ =>
    ⟨hg, h1, fun v H1 S1 tv => ⟨(by show 1 ≤ sizeLine; decide), fun p np => rTh_of (tv.txt.same (same_new (Same.refl _) np)) upd_same (z _ (S1.trans (same_new (Same.refl _) np)))⟩⟩
theorem rd_of {v : V} (hn : NotStr v) : ∀ H, Thing C H v t k → (∃ T, Dec H v T ∧ T ≠ "str") ∨ IsIns C H v := fun H h => by
  cases k with
  | whole i => rw [h.1]; exact .inl ⟨"int", .int i, by decide⟩
  | num n q =>
    obtain ⟨⟨b, rfl, r⟩, _⟩ := h
    exact .inr r.ins
  | other =>
    obtain ⟨⟨T, d, _⟩, _⟩ := h
    refine .inl ⟨T, d, ?_⟩
    cases d <;> first | (exact absurd rfl (hn _)) | decide
/-- Ratio.read(e): e is no string; its value is known -/
theorem pw_read2 {i : Nat} {fs : List WF} {al : Addr} {pl : Sem Bool} {mc : Value} {pc : Addr} (T : Tx X.K X.mg C) (O : OE X.prog X.w X.K X.mg X.base "InvalidText" D fI fdI) (kS : PySem.W.kitOne X.K (.ref C) (.type "str") = some false) (hx : Passes (L2.CX X.prog X.w) X E) (hr : Room 3 X.A)
    (ho : PE X o (tC (.ref C))) (r : ClX.CRead X.K C mc) (cm : ClX.CMet X.K C mc "read" pc T.aRd) (hm : WF.th i v k t ∈ fs) (ha : PE X a (tVar i)) (hk : ∀ H, Thing C H v t k → (∃ T, Dec H v T ∧ T ≠ "str") ∨ IsIns C H v)
    (hst : starEach (a :: []) X.env = (false, eval a X.env) :: starEach [] X.env := by rfl) (hpl : (backTo pos (starEach [] X.env)).any (·.1) = false := by rfl)
    (ht : eval (.Call (.Attribute o "read" apos) (a :: []) [] pos) X.env = (do
      let ov ← eval o X.env
      standAt apos.atName
      let (f, first) ← holding [ov] (getMethod ov "read" pl)
      callWith pos f first (backTo pos (starEach (a :: []) X.env)) (backToKw pos (keywordEach [] X.env))) := by rfl) : PE X (.Call (.Attribute o "read" apos) [a] [] pos) (TW E D C (GW C al fs) t True) :=
  pe_weak (ClX.pe_cmeth (E := E) ho r cm ((zw_Rd T O kS).raw T.bRd .nil) hr hx (pa_cons ha pa_nil hst) hst hpl ht) fun σ H Q ⟨hg, h1, z⟩ =>
    ⟨rfl, v, (hg _ hm).1, ⟨v, rfl, hk H ((hg _ hm).2.same del_sub), z v H (Same.refl H) ((hg _ hm).2.same del_sub).txt⟩⟩
end
section
variable {X : Cx} {C al : Addr} {cs bs : Nat → Addr} {Tb : List (Addr × Str)} {c Pa : Addr} {params : Arguments} {scope : Scope} {p lpos pos : Pos} {fs : List WF} {i1 : Nat} {v1 : V} {k1 : TK} {t1 : PySem.Str} {p1 p4 p5 p6 : Pos} {xa : Str} {fI : Addr} {fdI : FuncData}
theorem c_read {pl : Around → List PySem.Env → Shared → Hp → XK → Addr → Addr → Sem Bool} (T : Tx X.K X.mg C) (Z : CErr X.K X.mg cs bs) (O : OE X.prog X.w X.K X.mg X.base "InvalidText" (cs 1) fI fdI) (kS : PySem.W.kitOne X.K (.ref C) (.type "str") = some false) (N : ND X.K) (M : Amb X Tb c Pa) (L : LamS X.env.scope scope)
    (m1 : WF.th i1 v1 k1 t1 ∈ fs) (hn : NotStr v1) (hgl : ∀ A outer s H E f c', Gl (lamCx X A outer s H E scope f c') "Ratio") (ha : ∀ A outer s H E f c', PE (lamCx X A outer s H E scope f c') (.Name xa p1) (tVar i1))
    (ht : ∀ A outer s' H E f c', eval (.Call (.Attribute (.Name "Ratio" p5) "read" p6) [.Name xa p1] [] p4) (lamCx X A outer s' H E scope f c').env = (do
      let ov ← eval (.Name "Ratio" p5) (lamCx X A outer s' H E scope f c').env
      standAt p6.atName
      let (f_1, first) ← holding [ov] (getMethod ov "read" (pl A outer s' H E f c'))
      callWith p4 f_1 first (backTo p4 (starEach [.Name xa p1] (lamCx X A outer s' H E scope f c').env)) (backToKw p4 (keywordEach [] (lamCx X A outer s' H E scope f c').env))))
    (hdef : defaultsOf params X.env = ([], [])) (hbind : ∀ (q : Str) (cl : List (Str × Addr)) (pm cv ctv : Value), bindArgs (PySem.W.kla_fn "<lambda>" q params (.Call (.Attribute (.Name "Ratio" p5) "read" p6) [.Name xa p1] [] p4) scope cl pm cv ctv) ⟨[], []⟩ = pure []) :
    PE X (.Call (.Name "_law_caught" p) [.Lambda params (.Call (.Attribute (.Name "Ratio" p5) "read" p6) [.Name xa p1] [] p4) scope lpos] [] pos) (TC Tb (GW C al fs) "InvalidText" t1 True) := by
  have h := lam_caughtW (k := 5) (T := Tb) (p := p) (lpos := lpos) (pos := pos) (t := fun E => TW E (cs 1) C (GW C al fs) t1 True) T Z N M.gd M.hr M.gc M.TB M.code M.mT M.hu L (fun A outer s' H E f c' hq => pw_read2 (X := lamCx X A outer s' H E scope f c') (ht := ht A outer s' H E f c') T O kS PT0 (hq.mono (by decide)) (pe_glob (v := .ref C) (hgl A outer s' H E f c') T.rc.mgC rfl) T.rRd T.cRd m1 (ha A outer s' H E f c') (rd_of hn)) hdef hbind
  exact pc_wrong (j := 1) (by decide) (fun v => rfl) h GW.gn
end
def spRight (TT : List (Addr × Str)) : Sp := fun vs H Q _ => ∃ s : Addr, vs = [.ref s] ∧ SrcAt H s ∧ Tabs TT H ∧ ∀ H', SrcAt H' s → ButN s H H' → Tabs TT H' → Q (.bl true) H'
def F1 (u l : V) (k1 : TK) (t1 : PySem.Str) (k2 : TK) (t2 : PySem.Str) (pd : Addr) : List WF := [.th 1 u k1 t1, .th 2 l k2 t2, .ls 3 pd (mdueT k1 t1 k2 t2)]
def F2 (b : Addr) (x : Rat) (v : V) (k : TK) (t : PySem.Str) : List WF := [.fr 4 b 8 x, .th 5 v k t]
def F3 (b : Addr) (x : Rat) (v : V) (k : TK) (t : PySem.Str) : List WF := [.fr 4 b 8 x, .th 6 v k t]
def F4 (v : V) (k : TK) (t : PySem.Str) : List WF := [.th 7 v k t]
section
variable {P : Program} {w : World} {K : PySem.W.Frag} {mg : Str → Option Value} {base : Heap} {C c1 fIN fIC fIT : Addr} {cs bs : Nat → Addr} {fdN fdC fdT : FuncData}
theorem ok_right (T : Tx K mg C) (Z : SFT.CErr K mg cs bs) (ZD : DZ K mg (cs 10)) (N : ND K) (ON : OEK K mg "InvalidNumber" "InvalidNumber.__init__" sENum (cs 0) fIN fdN) (OT : OEK K mg "InvalidText" "InvalidText.__init__" sETxt (cs 1) fIT fdT) (OC : OEK K mg "InvalidCount" "InvalidCount.__init__" sECnt (cs 2) fIC fdC) (kS : PySem.W.kitOne K (.ref C) (.type "str") = some false) (hc1 : T.dRight.code = .ref c1) (TB : TabB base mg c1 (SFY.tabOf K c1)) :
    FnG P w K mg base CX0 10 T.aRight T.dRight ["_law_source_here"] (spRight (tb1 K c1)) := by
  have GD : FnOk P w K mg base CX0 1 T.aDraw T.dDraw ["_law_source_here", "_law_many"] spDraw := ok_draw T.FDraw T.blt
  have GT : FnOk P w K mg base CX0 4 T.aThing T.dThing ["_law_source_here"] (spThing C) := ok_thing T
  have GM : FnG P w K mg base CX0 5 T.aMDue T.dMDue ["_law_upper", "_law_lower"] (spMDue C) := ok_MDue T
  have GO : FnG P w K mg base CX0 5 T.aODue T.dODue ["_law_by"] (spODue C) := ok_ODue T
  have GP : FnG P w K mg base CX0 5 T.aPDue T.dPDue ["_law_base", "_law_degree"] (spPDue C) := ok_PDue T
  have GI : FnOk P w K mg base CX0 1 T.aIDue T.dIDue ["_law_seen", "_law_due"] spIsDue := ok_IsDue T
  refine okGc T.FRight hc1 scRight (fun vs H Q E h => ?_) (fun A outer s0 H vs Q E hgd hr h => ?_)
  · obtain ⟨s, rfl, _⟩ := h
    rfl
  · obtain ⟨so, rfl, hs, hT, z⟩ := h
    have hr1 := hr.mono (show 1 ≤ 9 by decide)
    have hr3 := hr.mono (show 3 ≤ 9 by decide)
    have hr4 := hr.mono (show 4 ≤ 9 by decide)
    have hr5 := hr.mono (show 5 ≤ 9 by decide)
    have hr9 := hr
    let G : L2.St → Hp → Prop := TG so
    have hG : GS G := fun σ H H' h S => SrcAt.same h S
    have hA : GA so G := fun σ H h => h
    have hNS : ∀ p : Addr, NotStr (.ref p) := fun p x => V.noConfusion
    let tdeg : TE := fun σ H Q => σ[0]? = some (some (.ref so)) ∧ SrcAt H so ∧ ∀ v k t H', KB k → PyData.strOk t = true → Thing C (del H' so) v t k → SrcAt H' so → But so H H' → Q v H'
    refine ⟨_, (pss_cons (ps_asg (pe_tup (pa_cons (pe_call GT hr4 (by rfl) T.gThing T.FThing.kp T.bThing .nil pass0 (pa_cons (pv 0) pa_nil)) (pa_cons (pe_call GT hr4 (by rfl) T.gThing T.FThing.kp T.bThing .nil pass0 (pa_cons (pv 0) pa_nil)) pa_nil))) (pg_tup rfl (pgs_cons (pg_name (i := 1) scRight.nd rfl (.inr rfl)) (pgs_cons (pg_name (i := 2) scRight.nd rfl (.inr rfl)) pgs_nil))))
        (pss_exT (fun u : V => (pss_exT (fun l : V => (pss_exT (fun k1 : TK => (pss_exT (fun k2 : TK => (pss_exT (fun t1 : PySem.Str => (pss_exT (fun t2 : PySem.Str => (pss_exT (fun kb : PLift (KB k1 ∧ KB k2 ∧ PyData.strOk t1 = true ∧ PyData.strOk t2 = true) => (pss_cons (ps_set (i := 3) scRight.nd rfl (.inl rfl) (pe_callG GM hgd hr5 (by rfl) T.gMDue T.FMDue.kp T.bMDue .nil pass0 (pa_cons (pv 1) (pa_cons (pv 2) pa_nil))))
        (pss_exT (fun pd : Addr => (pss_cons (ps_if (pt_not (pt_val (pe_due (G := GW C so (F1 u l k1 t1 k2 t2 pd)) GI hr1 (by rfl) T.gIDue T.FIDue.kp T.bIDue GW.gn (c_make T Z ZD (ok_ENum ON) N ⟨hgd, hr9, (by rfl), TB, rfl, List.mem_cons_self, tb1_u⟩ (lamS_by (by show lamSB (defScope sRight) _ = true; decide +kernel)) List.mem_cons_self (List.mem_cons_of_mem _ List.mem_cons_self) kb.down.1 kb.down.2.1 kb.down.2.2.1 kb.down.2.2.2 (fun _ _ _ _ _ _ _ => by rfl) (fun _ _ _ _ _ _ _ => pv 1) (fun _ _ _ _ _ _ _ => pv 2) (by rfl) (by intros; rfl)) (tl_w (C := C) (List.mem_cons_of_mem _ (List.mem_cons_of_mem _ List.mem_cons_self)) (pv 3)) (mdue_ok kb.down.2.2.1 kb.down.2.2.2)))) (pss_one (ps_ret pe_bl)) pss_nil)
        (pss_cons (ps_if (pt_not (pt_val (pe_due (G := GW C so (F1 u l k1 t1 k2 t2 pd)) GI hr1 (by rfl) T.gIDue T.FIDue.kp T.bIDue GW.gn (c_makeK T Z ZD (ok_ENum ON) N ⟨hgd, hr9, (by rfl), TB, rfl, List.mem_cons_self, tb1_u⟩ (lamS_by (by show lamSB (defScope sRight) _ = true; decide +kernel)) List.mem_cons_self kb.down.1 kb.down.2.2.1 (List.mem_cons_of_mem _ List.mem_cons_self) kb.down.2.1 kb.down.2.2.2 (fun _ _ _ _ _ _ _ => by rfl) (fun _ _ _ _ _ _ _ => pv 1) (fun _ _ _ _ _ _ _ => pv 2) (by rfl) (by intros; rfl)) (tl_w (C := C) (List.mem_cons_of_mem _ (List.mem_cons_of_mem _ List.mem_cons_self)) (pv 3)) (mdue_ok kb.down.2.2.1 kb.down.2.2.2)))) (pss_one (ps_ret pe_bl)) pss_nil)
        (pss_cons (ps_if (pt_not (pt_val (pe_due (G := GW C so (F1 u l k1 t1 k2 t2 pd)) GI hr1 (by rfl) T.gIDue T.FIDue.kp T.bIDue GW.gn (c_make1 (t2 := tOne) T Z ZD (ok_ENum ON) N ⟨hgd, hr9, (by rfl), TB, rfl, List.mem_cons_self, tb1_u⟩ (lamS_by (by show lamSB (defScope sRight) _ = true; decide +kernel)) List.mem_cons_self kb.down.1 kb.down.2.2.1 (fun _ _ _ _ _ _ _ => by rfl) (fun _ _ _ _ _ _ _ => pv 1) (by rfl) (by intros; rfl)) (pe_weak (t' := TL (GW C so (F1 u l k1 t1 k2 t2 pd)) (mdueT k1 t1 (.whole 1) tOne) True) (pe_callG GM hgd hr5 (by rfl) T.gMDue T.FMDue.kp T.bMDue .nil pass0 (pa_cons (tv_w List.mem_cons_self (pv 1)) (pa_cons pe_int pa_nil))) (fun σ' H' Q' hh => ⟨hh.1, trivial, fun v' H1 S1 tv' => ⟨v', .int 1, k1, t1, .whole 1, tOne, rfl, tv', thing_int (by decide) (by decide) _, fun p' H2 S2 e2 => hh.2.2 p' H2 (S1.trans S2) (by rw [e2, mdue_is])⟩⟩)) (mdue_ok kb.down.2.2.1 ok_int)))) (pss_one (ps_ret pe_bl)) pss_nil)
        (pss_cons (ps_set (i := 4) scRight.nd rfl (.inr rfl) (pe_make (E := E0) T.M (ok_init T) hr3 (by rfl) T.rc.mgC T.b2 .nil pass0 (pa_cons (pe_op op_sub (pe_call GD hr1 (by rfl) T.gDraw T.FDraw.kp T.bDraw .nil pass0 (pa_cons (pv 0) (pa_cons pe_int pa_nil))) pe_int) (pa_cons (pe_op op_add pe_int (pe_call GD hr1 (by rfl) T.gDraw T.FDraw.kp T.bDraw .nil pass0 (pa_cons (pv 0) (pa_cons pe_int pa_nil)))) pa_nil)) (by decide)))
        (pss_cons (ps_set (i := 5) scRight.nd rfl (.inr rfl) (pe_call GT hr4 (by rfl) T.gThing T.FThing.kp T.bThing .nil pass0 (pa_cons (pv 0) pa_nil)))
        (pss_exT (fun b : Addr => (pss_exT (fun x : Rat => (pss_exT (fun v3 : V => (pss_exT (fun k3 : TK => (pss_exT (fun t3 : PySem.Str => (pss_exT (fun kb3 : PLift (KB k3 ∧ PyData.strOk t3 = true) => (pss_cons (ps_if (pt_not (pt_val (pe_due (G := GW C so (F2 b x v3 k3 t3)) GI hr1 (by rfl) T.gIDue T.FIDue.kp T.bIDue GW.gn (c_over T Z ZD (ok_ENum ON) N ⟨hgd, hr9, (by rfl), TB, rfl, List.mem_cons_self, tb1_u⟩ (lamS_by (by show lamSB (defScope sRight) _ = true; decide +kernel)) List.mem_cons_self (by decide) (List.mem_cons_of_mem _ List.mem_cons_self) kb3.down.1 kb3.down.2 (fun _ _ _ _ _ _ _ => pv 4) (fun _ _ _ _ _ _ _ => pv 5) (by intros; rfl) (by rfl) (by intros; rfl)) (pe_weak (t' := TL (GW C so (F2 b x v3 k3 t3)) (odueT k3 t3) True) (pe_callG GO hgd hr5 (by rfl) T.gODue T.FODue.kp T.bODue .nil pass0 (pa_cons (tv_w (List.mem_cons_of_mem _ List.mem_cons_self) (pv 5)) pa_nil)) (fun σ' H' Q' hh => ⟨hh.1, trivial, fun v' H1 S1 tv' => ⟨v', k3, t3, rfl, tv', fun p' H2 S2 e2 => hh.2.2 p' H2 (S1.trans S2) (by rw [e2, odue_is])⟩⟩)) (odue_ok kb3.down.2)))) (pss_one (ps_ret pe_bl)) pss_nil)
        (pss_cons (ps_if (pt_not (pt_val (pe_due (G := GW C so (F2 b x v3 k3 t3)) GI hr1 (by rfl) T.gIDue T.FIDue.kp T.bIDue GW.gn (c_overK T Z ZD (ok_ENum ON) N ⟨hgd, hr9, (by rfl), TB, rfl, List.mem_cons_self, tb1_u⟩ (lamS_by (by show lamSB (defScope sRight) _ = true; decide +kernel)) List.mem_cons_self (by decide) (List.mem_cons_of_mem _ List.mem_cons_self) kb3.down.1 kb3.down.2 (fun _ _ _ _ _ _ _ => pv 4) (fun _ _ _ _ _ _ _ => pv 5) (by intros; rfl) (by rfl) (by intros; rfl)) (pe_weak (t' := TL (GW C so (F2 b x v3 k3 t3)) (odueT k3 t3) True) (pe_callG GO hgd hr5 (by rfl) T.gODue T.FODue.kp T.bODue .nil pass0 (pa_cons (tv_w (List.mem_cons_of_mem _ List.mem_cons_self) (pv 5)) pa_nil)) (fun σ' H' Q' hh => ⟨hh.1, trivial, fun v' H1 S1 tv' => ⟨v', k3, t3, rfl, tv', fun p' H2 S2 e2 => hh.2.2 p' H2 (S1.trans S2) (by rw [e2, odue_is])⟩⟩)) (odue_ok kb3.down.2)))) (pss_one (ps_ret pe_bl)) pss_nil)
        (pss_cons (ps_set (i := 6) scRight.nd rfl (.inr rfl) (pe_weak (t' := tdeg) (pe_ifExp (pt_cmpR op_eq (pe_call GD hr1 (by rfl) T.gDraw T.FDraw.kp T.bDraw .nil pass0 (pa_cons (pv 0) (pa_cons pe_int pa_nil))) pe_int (nomark _)) (pe_call GT hr4 (by rfl) T.gThing T.FThing.kp T.bThing .nil pass0 (pa_cons (pv 0) pa_nil)) (pe_ix ix_list (pe_lst (pa_cons (pe_un un_neg pe_int) (pa_cons (pe_un un_neg pe_int) (pa_cons pe_int (pa_cons pe_int (pa_cons pe_int (pa_cons (pe_un un_neg pe_int) pa_nil))))))) (pe_call GD hr1 (by rfl) T.gDraw T.FDraw.kp T.bDraw .nil pass0 (pa_cons (pv 0) (pa_cons pe_int pa_nil))) (fun _ _ => rfl))) (fun σ' H' Q' hh => by
          obtain ⟨h0, hs', w'⟩ := hh
          refine ⟨_, h0, so, 2, rfl, (by decide), (by decide), hs', fun d H1 _ _ s1 k1 => ⟨rfl, _, rfl, ?_⟩⟩
          refine ite2 (fun _ => ?_) (fun _ => ?_)
          · exact ⟨_, h0, so, rfl, s1, fun v k t H2 kb ok th s2 k2 => w' v k t H2 kb ok th s2 (k1.trans k2)⟩
          · refine ⟨_, rfl, _, rfl, _, rfl, (by show 6 ≤ sizeLine; decide), fun p np => ?_⟩
            have pa := s1.ne np
            refine ⟨_, h0, so, 6, rfl, (by decide), (by decide), s1.same (same_new (Same.refl _) np), fun e H2 e0 e1 s2 k2 => ?_⟩
            have ep : H2 p = some (.lst [.int (-21), .int (-20), .int 20, .int 21, .int 22, .int (-1)]) := k2 _ _ (Ne.symm pa) upd_same
            have kk : But so H' H2 := (k1.new np).trans k2
            obtain ⟨m, rfl⟩ := Int.eq_ofNat_of_zero_le e0
            have hm : m < 6 := by omega
            have fin : ∀ i : Int, -Big < i → i < Big → [V.int (-21), V.int (-20), V.int 20, V.int 21, V.int 22, V.int (-1)][m]? = some (.int i) → rIxL K (.ref p) (.int (m : Int)) H2 Q' := fun i h0 h1 h2 => ⟨p, _, _, .int i, rfl, rfl, SqL.of ep, atI_nat h2, w' _ (.whole i) _ _ ⟨h0, h1⟩ ok_int (thing_int h0 h1 _) s2 kk⟩
            match m, hm, fin with
            | 0, _, fin => exact fin (-21) (by decide) (by decide) rfl
            | 1, _, fin => exact fin (-20) (by decide) (by decide) rfl
            | 2, _, fin => exact fin 20 (by decide) (by decide) rfl
            | 3, _, fin => exact fin 21 (by decide) (by decide) rfl
            | 4, _, fin => exact fin 22 (by decide) (by decide) rfl
            | 5, _, fin => exact fin (-1) (by decide) (by decide) rfl)))
        (pss_exT (fun v4 : V => (pss_exT (fun k4 : TK => (pss_exT (fun t4 : PySem.Str => (pss_exT (fun kb4 : PLift (KB k4 ∧ PyData.strOk t4 = true) => (pss_cons (ps_if (pt_not (pt_val (pe_due (G := GW C so (F3 b x v4 k4 t4)) GI hr1 (by rfl) T.gIDue T.FIDue.kp T.bIDue GW.gn (c_power T Z ZD (ok_ECnt OC) N ⟨hgd, hr9, (by rfl), TB, rfl, List.mem_cons_self, tb1_u⟩ (lamS_by (by show lamSB (defScope sRight) _ = true; decide +kernel)) List.mem_cons_self (by decide) (List.mem_cons_of_mem _ List.mem_cons_self) kb4.down.1 kb4.down.2 (fun _ _ _ _ _ _ _ => pv 4) (fun _ _ _ _ _ _ _ => pv 6) (by intros; rfl) (by rfl) (by intros; rfl)) (pe_weak (t' := TL (GW C so (F3 b x v4 k4 t4)) (pdueT (decide (x = 0)) k4 t4) True) (pe_callG GP hgd hr5 (by rfl) T.gPDue T.FPDue.kp T.bPDue .nil pass0 (pa_cons (tq_w List.mem_cons_self (pv 4)) (pa_cons (tv_w (List.mem_cons_of_mem _ List.mem_cons_self) (pv 6)) pa_nil))) (fun σ' H' Q' hh => ⟨hh.1, trivial, fun v' H1 S1 nv' => ⟨GW.gs _ _ _ hh.1 S1, trivial, fun u' H2 S2 tv' => by
          obtain ⟨b', rfl, r'⟩ := nv_true nv'
          exact ⟨b', u', k4, t4, 8, x, rfl, r'.same S2, tv', fun p' H3 S3 e3 => hh.2.2 p' H3 ((S1.trans S2).trans S3) (by rw [e3, pdue_is])⟩⟩⟩)) (pdue_ok kb4.down.2)))) (pss_one (ps_ret pe_bl)) pss_nil)
        (pss_cons (ps_if (pt_not (pt_val (pe_due (G := GW C so (F3 b x v4 k4 t4)) GI hr1 (by rfl) T.gIDue T.FIDue.kp T.bIDue GW.gn (c_powerK T Z ZD (ok_ECnt OC) N ⟨hgd, hr9, (by rfl), TB, rfl, List.mem_cons_self, tb1_u⟩ (lamS_by (by show lamSB (defScope sRight) _ = true; decide +kernel)) List.mem_cons_self (by decide) (List.mem_cons_of_mem _ List.mem_cons_self) kb4.down.1 kb4.down.2 (fun _ _ _ _ _ _ _ => pv 4) (fun _ _ _ _ _ _ _ => pv 6) (by intros; rfl) (by rfl) (by intros; rfl)) (pe_weak (t' := TL (GW C so (F3 b x v4 k4 t4)) (pdueT (decide (x = 0)) k4 t4) True) (pe_callG GP hgd hr5 (by rfl) T.gPDue T.FPDue.kp T.bPDue .nil pass0 (pa_cons (tq_w List.mem_cons_self (pv 4)) (pa_cons (tv_w (List.mem_cons_of_mem _ List.mem_cons_self) (pv 6)) pa_nil))) (fun σ' H' Q' hh => ⟨hh.1, trivial, fun v' H1 S1 nv' => ⟨GW.gs _ _ _ hh.1 S1, trivial, fun u' H2 S2 tv' => by
          obtain ⟨b', rfl, r'⟩ := nv_true nv'
          exact ⟨b', u', k4, t4, 8, x, rfl, r'.same S2, tv', fun p' H3 S3 e3 => hh.2.2 p' H3 ((S1.trans S2).trans S3) (by rw [e3, pdue_is])⟩⟩⟩)) (pdue_ok kb4.down.2)))) (pss_one (ps_ret pe_bl)) pss_nil)
        (pss_cons (ps_if (pc_neT (T := tb1 K c1) (G := GW C so (F3 b x v4 k4 t4)) hr.units GW.gn (nomark _) (pc_wrong (T := tb1 K c1) (G := GW C so (F3 b x v4 k4 t4)) (j := 2) (t := t21) (s := True ∧ True) (by decide) (fun v => rfl) (lam_caughtW (k := 5) T Z N hgd hr9 (by rfl) TB rfl List.mem_cons_self tb1_u (lamS_by (by show lamSB (defScope sRight) _ = true; decide +kernel)) (fun A outer s H E f c' hq => pw_pow (i := 21) T (ok_ECnt OC) PT0 (hq.mono (by decide)) GW.gs (.inr (by decide)) (fun _ => txt_of (.int 21) (okD_int (by decide) (by decide))) (tq_w List.mem_cons_self (pv 4)) pI_int)) GW.gn) (pL_lst (pas_cons (G := GW C so (F3 b x v4 k4 t4)) GW.gs pS_lit (pas_cons (G := GW C so (F3 b x v4 k4 t4)) GW.gs pS_lit (pas_nil (G := GW C so (F3 b x v4 k4 t4)))))) (by decide +kernel) (by decide +kernel)) (pss_one (ps_ret pe_bl)) pss_nil)
        (pss_cons (ps_set (i := 7) scRight.nd rfl (.inr rfl) (pe_ix ix_list (pe_lst (td_cons (R := NotStr) hG (td_lit (k := .other) pe_non (fun _ _ _ q => q) (thing_non) (by intro x; exact V.noConfusion)) (td_cons (R := NotStr) hG (td_lit (k := .other) pe_bl (fun _ _ _ q => q) (thing_bl true) (by intro x; exact V.noConfusion)) (td_cons (R := NotStr) hG (td_lit (k := .whole 0) pe_int (fun _ _ _ q => q) (thing_int (by decide) (by decide)) (by intro x; exact V.noConfusion)) (td_cons (R := NotStr) hG (td_lit (k := .whole 1) pe_int (fun _ _ _ q => q) (thing_int (by decide) (by decide)) (by intro x; exact V.noConfusion)) (td_cons (R := NotStr) hG (td_tup (ds := []) hA pa_nil (fun _ _ _ q => q) (fun _ => .nil) (by decide) ⟨rfl, by decide +kernel, by decide +kernel⟩ hNS) (td_cons (R := NotStr) hG (td_tup (ds := [.str "1"]) hA (pa_cons pe_str pa_nil) (fun _ _ _ q => q) (fun _ => .cons (.str "1") .nil) (by decide) ⟨rfl, by decide +kernel, by decide +kernel⟩ hNS) (td_cons (R := NotStr) hG (td_lst (ds := [.str "1"]) hA (pa_cons pe_str pa_nil) (fun _ _ _ q => q) (fun _ => .cons (.str "1") .nil) (by decide) ⟨rfl, by decide +kernel, by decide +kernel⟩ hNS) (td_cons (R := NotStr) hG (td_dct0 hA ⟨rfl, by decide +kernel, by decide +kernel⟩ hNS) (td_cons (R := NotStr) hG (td_num (n := 8) hA hG (pq_make1 (G := G) (n := 8) T.M (ok_init T) T.b1 T.vv hr3 (by rfl) T.rc.mgC (pI_int (i := 1)) (by decide) (by decide)) ⟨trivial, by decide⟩ (by decide) (by decide +kernel) hNS) (td_cons (R := NotStr) hG (td_tup (ds := [.str "1", .str "2"]) hA (pa_cons pe_str (pa_cons pe_str pa_nil)) (fun _ _ _ q => q) (fun _ => .cons (.str "1") (.cons (.str "2") .nil)) (by decide) ⟨rfl, by decide +kernel, by decide +kernel⟩ hNS) (td_nil (R := NotStr))))))))))))) (pe_call GD hr1 (by rfl) T.gDraw T.FDraw.kp T.bDraw .nil pass0 (pa_cons (pv 0) (pa_cons pe_int pa_nil))) (fun _ _ => rfl)))
        (pss_exT (fun v5 : V => (pss_exT (fun k5 : TK => (pss_exT (fun t5 : PySem.Str => (pss_exT (fun kb5 : PLift (KB k5 ∧ PyData.strOk t5 = true ∧ NotStr v5) => (pss_one (ps_ret (pc_eq (T := tb1 K c1) (G := GW C so (F4 v5 k5 t5)) hr.units GW.gn (nomark _) (c_read T Z (ok_ETxt OT) kS N ⟨hgd, hr9, (by rfl), TB, rfl, List.mem_cons_self, tb1_u⟩ (lamS_by (by show lamSB (defScope sRight) _ = true; decide +kernel)) List.mem_cons_self kb5.down.2.2 (fun _ _ _ _ _ _ _ => by rfl) (fun _ _ _ _ _ _ _ => pv 7) (by intros; rfl) (by rfl) (by intros; rfl)) (pL_lst (pas_cons (G := GW C so (F4 v5 k5 t5)) GW.gs pS_lit (pas_cons (G := GW C so (F4 v5 k5 t5)) GW.gs (pS_rTh T hgd hr3 (by rfl) (tv_w (fs := (F4 v5 k5 t5)) List.mem_cons_self (pv 7))) pas_nil))) (by simp [kb5.down.2.1, okIT]) (by simp [kb5.down.2.1, okIT])))))))))))))))))))))))))))))))))))))))))))))))))))))))))))))), ?_⟩
    refine ⟨_, rfl, so, rfl, hs, fun u k1 t1 H1 b1 o1 th1 hs1 bt1 => ⟨_, rfl, so, rfl, hs1, fun l k2 t2 H2 b2 o2 th2 hs2 bt2 => ⟨(by show 2 ≤ sizeLine; decide), fun p np => ?_⟩⟩⟩
    generalize hE3 : upd H2 p _ = H3
    have g3 := upd_gotC hE3
    have X3 := upd_stayC hE3 np
    refine ⟨p, _, rfl, SqT.of g3, rfl, _, _, rfl, _, _, rfl, rfl, u, l, k1, k2, t1, t2, ⟨b1, b2, o1, o2⟩, ?_⟩
    have a1 : Thing C (del H3 so) u t1 k1 := (th1.same (but_del bt2)).same (same_del X3)
    have a2 : Thing C (del H3 so) l t2 k2 := th2.same (same_del X3)
    have hs3 : SrcAt H3 so := hs2.same X3
    have T3 : Tabs (tb1 K c1) H3 := (tabs_but (tabs_but hT hs bt1) hs1 bt2).ext X3
    have B3 : ButN so H H3 := (ButN.but (bt1.trans bt2)).trans (ButN.of (ExtN.of X3))
    refine ⟨_, rfl, _, rfl, u, l, k1, t1, k2, t2, rfl, a1.same del_sub, a2.same del_sub, fun pd H4 X4 e4 => ⟨pd, ?_⟩⟩
    rw [mdue_is] at e4
    have hs4 : SrcAt H4 so := hs3.same X4
    have E4 : GW C so (F1 u l k1 t1 k2 t2 pd) [some (.ref so), some u, some l, some (.ref pd), none, none, none, none] H4 :=
      gw_cons ⟨rfl, a1.same (same_del X4)⟩ (gw_cons ⟨rfl, a2.same (same_del X4)⟩ (gw_cons ⟨rfl, ls_off hs4 e4⟩ gw_nil))
    have T4 := T3.ext X4
    refine ⟨E4, T4, trivial, fun H5 X5 T5 => ⟨_, rfl, iteF ?_⟩⟩
    have E5 := GW.gn _ _ _ E4 X5
    refine ⟨E5, T5, trivial, fun H6 X6 T6 => ⟨_, rfl, iteF ?_⟩⟩
    have E6 := GW.gn _ _ _ E5 X6
    refine ⟨E6, T6, trivial, fun H7 X7 T7 => ⟨_, rfl, iteF ?_⟩⟩
    have X47 : ExtN H4 H7 := (X5.trans X6).trans X7
    have hs7 : SrcAt H7 so := SrcAt.extN hs4 X47
    have B7 : ButN so H H7 := (B3.trans (ButN.of (ExtN.of X4))).trans (ButN.of X47)
    refine ⟨_, rfl, so, 3, rfl, (by decide), (by decide), hs7, fun d H8 d0 d1 hs8 k8 => ⟨_, _, rfl, rfl, ?_⟩⟩
    refine ⟨_, rfl, so, 4, rfl, (by decide), (by decide), hs8, fun e H9 e0 e1 hs9 k9 => ⟨_, _, rfl, rfl, fun x dx hx hd hn => mk_fin (n := 8) hx hd hn (by omega) (Nat.lt_of_lt_of_le (show (d - 1).natAbs < 2 ^ 4 by omega) (two_le (by decide))) (Nat.lt_of_lt_of_le (show (1 + e).natAbs < 2 ^ 4 by omega) (two_le (by decide))) (by decide) fun H10 X10 rq => ⟨rfl, ?_⟩⟩⟩
    have hs10 : SrcAt H10 so := hs9.same X10
    have T10 : Tabs (tb1 K c1) H10 := (tabs_but (tabs_but T7 hs7 k8) hs8 k9).ext X10
    have B10 : ButN so H H10 := (B7.trans (ButN.but (k8.trans k9))).trans (ButN.of (ExtN.of X10))
    refine ⟨_, rfl, so, rfl, hs10, fun v3 k3 t3 H11 b3 o3 th3 hs11 bt11 => ⟨x, Rat.divInt (d - 1) (1 + e), v3, k3, t3, ⟨b3, o3⟩, ?_⟩⟩
    have T11 := tabs_but T10 hs10 bt11
    have rq11 : RQ C (del H11 so) x 8 (Rat.divInt (d - 1) (1 + e)) := (rq_off hs10 rq).same (but_del bt11)
    have E11 : GW C so (F2 x (Rat.divInt (d - 1) (1 + e)) v3 k3 t3) [some (.ref so), some u, some l, some (.ref pd), some (.ref x), some v3, none, none] H11 :=
      gw_cons ⟨rfl, rq11⟩ (gw_cons ⟨rfl, th3⟩ gw_nil)
    have B11 : ButN so H H11 := B10.trans (ButN.but bt11)
    refine ⟨E11, T11, trivial, fun H12 X12 T12 => ⟨_, rfl, iteF ?_⟩⟩
    have E12 := GW.gn _ _ _ E11 X12
    refine ⟨E12, T12, trivial, fun H13 X13 T13 => ⟨_, rfl, iteF ?_⟩⟩
    have X1113 : ExtN H11 H13 := X12.trans X13
    have hs13 : SrcAt H13 so := SrcAt.extN hs11 X1113
    have B13 : ButN so H H13 := B11.trans (ButN.of X1113)
    refine ⟨rfl, hs13, fun v4 k4 t4 H14 b4 o4 th4 hs14 bt14 => ⟨v4, k4, t4, ⟨b4, o4⟩, ?_⟩⟩
    have T14 := tabs_but T13 hs13 bt14
    have rq14 : RQ C (del H14 so) x 8 (Rat.divInt (d - 1) (1 + e)) := (rq11.extN (extN_del X1113)).same (but_del bt14)
    have E14 : GW C so (F3 x (Rat.divInt (d - 1) (1 + e)) v4 k4 t4) [some (.ref so), some u, some l, some (.ref pd), some (.ref x), some v3, some v4, none] H14 :=
      gw_cons ⟨rfl, rq14⟩ (gw_cons ⟨rfl, th4⟩ gw_nil)
    have B14 : ButN so H H14 := B13.trans (ButN.but bt14)
    refine ⟨E14, T14, trivial, fun H15 X15 T15 => ⟨_, rfl, iteF ?_⟩⟩
    have E15 := GW.gn _ _ _ E14 X15
    refine ⟨E15, T15, trivial, fun H16 X16 T16 => ⟨_, rfl, iteF ?_⟩⟩
    have E16 := GW.gn _ _ _ E15 X16
    refine ⟨E16, T16, ⟨⟨trivial, trivial⟩, ⟨trivial, trivial, trivial⟩, (by show 2 ≤ sizeLine; decide)⟩, fun H17 X17 T17 => ?_⟩
    refine iteF_of (neF (by decide +kernel)) ?_
    have X1417 : ExtN H14 H17 := (X15.trans X16).trans X17
    have hs17 : SrcAt H17 so := SrcAt.extN hs14 X1417
    have B17 : ButN so H H17 := B14.trans (ButN.of X1417)
    refine ⟨hs17, fun vs H18 X18 ths => ⟨?_, fun p18 np18 => ?_⟩⟩
    · rw [ths.len]
      decide
    have hs18 : SrcAt H18 so := hs17.same X18
    have pa18 := hs18.ne np18
    have hs18' := hs18.same (same_new (o := HO.lst vs) (Same.refl H18) np18)
    refine ⟨_, rfl, so, 10, rfl, (by decide), (by decide), hs18', fun f H19 f0 f1 hs19 k19 => ?_⟩
    have ep : H19 p18 = some (.lst vs) := k19 _ _ (Ne.symm pa18) upd_same
    obtain ⟨m, rfl⟩ := Int.eq_ofNat_of_zero_le f0
    have th19 := ths.same ((same_del (same_new (o := HO.lst vs) (Same.refl H18) np18)).trans (but_del k19))
    obtain ⟨v5, ⟨k5, t5⟩, w1, w2, th5, ns5⟩ := th19.at_ (i := m) (by show m < 10; omega)
    have hm := List.mem_of_getElem? w2
    simp only [List.mem_cons, Prod.mk.injEq, List.not_mem_nil, or_false] at hm
    have b5 : KB k5 := by
      rcases hm with h | h | h | h | h | h | h | h | h | h <;> (rw [h.1]; first | exact trivial | exact Nat.le_refl 8 | exact ⟨by decide, by decide⟩)
    have o5 : PyData.strOk t5 = true := by
      rcases hm with h | h | h | h | h | h | h | h | h | h <;> (rw [h.2]; decide +kernel)
    refine ⟨p18, _, _, v5, rfl, rfl, SqL.of ep, atI_nat w1, v5, k5, t5, ⟨b5, o5, ns5⟩, ?_⟩
    have T19 := tabs_but ((T17.ext X18).ext (same_new (o := HO.lst vs) (Same.refl H18) np18)) hs18' k19
    have B19 : ButN so H H19 := (B17.trans (ButN.of (ExtN.of (X18.trans (same_new (o := HO.lst vs) (Same.refl H18) np18))))).trans (ButN.but k19)
    have E19 : GW C so (F4 v5 k5 t5) [some (.ref so), some u, some l, some (.ref pd), some (.ref x), some v3, some v4, some v5] H19 := gw_cons ⟨rfl, th5⟩ gw_nil
    refine ⟨E19, T19, ⟨trivial, ⟨trivial, trivial, trivial⟩, (by show 2 ≤ sizeLine; decide)⟩, fun H20 X20 T20 => ?_⟩
    rw [decide_eq_true rfl]
    exact z H20 (SrcAt.extN hs19 X20) (B19.trans (ButN.of X20)) T20
end
end T06

/-! law of k06. -/
namespace SQ
open PySem PySem.Spec PyProof.Rows L2 SF LamX
theorem seq_extN {K : PySem.W.Frag} {H H' : Hp} {a : Addr} {xs : List V} (h : SqL K H a xs) (s : ExtN H H') : SqL K H' a xs := by
  rcases h with (h | ⟨o, h⟩) | h
  · exact .inl (.inl (s _ _ h (fun ps z => by cases z)))
  · exact .inl (.inr ⟨o, s _ _ h (fun ps z => by cases z)⟩)
  · exact .inr h
end SQ
namespace T06
open PySem PySem.Spec PyProof.Rows L2 SF SQ LamX SFT L2H
theorem tabs_lst {T : List (Addr × PySem.Str)} {H : Hp} {p : Addr} {xs ys : List V} (t : Tabs T H) (e : H p = some (.lst xs)) : Tabs T (upd H p (.lst ys)) := fun r hr => by
  obtain ⟨ps, h1, h2, h3⟩ := t r hr
  have n : r.1 ≠ p := fun z => by
    rw [z, e] at h1
    cases h1
  refine ⟨ps, by rw [upd_ne n]; exact h1, h2, fun pos cv hc => ?_⟩
  obtain ⟨c, e1, e2⟩ := h3 pos cv hc
  have m : c ≠ p := fun z => by
    rw [z, e] at e2
    have w := Option.some.inj e2
    unfold CodeO at w
    cases w
  exact ⟨c, e1, by rw [upd_ne m]; exact e2⟩
def spLaw (K : PySem.W.Frag) (TT : List (Addr × Str)) : Sp := fun vs H Q _ => ∃ (a : Addr) (ns : List Int), vs = [.ref a] ∧ SqL K H a (ns.map V.int) ∧ ns.length ≤ 63 ∧ Tabs TT H ∧ ∀ H', Q (.bl true) H'
section
variable {P : Program} {w : World} {K : PySem.W.Frag} {mg : Str → Option Value} {base : Heap} {C c1 fIN fIC fIT : Addr} {cs bs : Nat → Addr} {fdN fdC fdT : FuncData}
theorem ok_law (T : Tx K mg C) (Z : SFT.CErr K mg cs bs) (ZD : DZ K mg (cs 10)) (N : ND K) (ON : OEK K mg "InvalidNumber" "InvalidNumber.__init__" sENum (cs 0) fIN fdN) (OT : OEK K mg "InvalidText" "InvalidText.__init__" sETxt (cs 1) fIT fdT) (OC : OEK K mg "InvalidCount" "InvalidCount.__init__" sECnt (cs 2) fIC fdC) (kS : PySem.W.kitOne K (.ref C) (.type "str") = some false) (hc1 : T.dRight.code = .ref c1) (TB : TabB base mg c1 (SFY.tabOf K c1)) :
    FnG P w K mg base CX0 11 T.aLaw T.dLaw ["_law_cells"] (spLaw K (tb1 K c1)) := by
  have GC : FnOk P w K mg base CX0 1 T.aCell T.dCell ["_law_cells", "_law_k"] (spCell K) := ok_cell T.FCell T.blt
  have GSo : FnOk P w K mg base CX0 1 T.aSrc T.dSrc ["_law_cell_here"] spSource := ok_source T.FSrc T.blt
  have GR : FnG P w K mg base CX0 10 T.aRight T.dRight ["_law_source_here"] (spRight (tb1 K c1)) := ok_right T Z ZD N ON OT OC kS hc1 TB
  refine okG T.FLaw scLaw (fun vs H Q E h => ?_) (fun cdv A outer s0 H vs Q E hgd hr h => ?_)
  · obtain ⟨a, ns, rfl, _⟩ := h
    rfl
  · obtain ⟨a, ns, rfl, hS, hlen, hT, q⟩ := h
    have hr1 := hr.mono (show 1 ≤ 10 by decide)
    refine ⟨_, (pss_cons (ps_for PassesOwn.never rfl (pi_range1 rfl T.rc.range_ (pa_cons (pe_callB (call_max2 rfl) (by rfl) T.max_ (by decide +kernel) (pa_cons pe_int (pa_cons (pe_callB (call_min2 rfl) (by rfl) T.min_ (by decide +kernel) (pa_cons (pe_callB call_len_seq (by rfl) T.len (by decide +kernel) (pa_cons (pv 0) pa_nil)) (pa_cons pe_int pa_nil))) pa_nil))) pa_nil)) (pg_name (i := 1) scLaw.nd rfl (.inl rfl)) (pss_cons (ps_set (i := 2) scLaw.nd rfl (.inr rfl) (pe_call GSo hr1 (by rfl) T.gSrc T.FSrc.kp T.bSrc .nil pass0 (pa_cons (pe_call GC hr1 (by rfl) T.gCell T.FCell.kp T.bCell .nil pass0 (pa_cons (pv 0) (pa_cons (pv 1) pa_nil))) pa_nil)))
      (pss_one (ps_if (pt_not (pt_val (pe_callB (cr_all rfl) (by rfl) T.all_ (by decide +kernel) (pa_cons (pe_lc (own := [("_law_turn", 3)]) (g := gName 3) (tt := tYes) rfl scLaw.nd (pi_range1 rfl T.rc.range_ (pa_cons pe_int pa_nil)) (blkOk_by (N := ["_law_cells", "_law_k", "_law_source_here", "_law_turn"]) (sc := defScope sLaw) (by decide +kernel)) (fun _ _ _ _ _ => pg_name (i := 3) scLaw.nd rfl (Or.inl rfl)) (fun _ _ _ _ _ => pts_nil) (fun _ _ _ _ _ => pe_callG GR hgd hr (by rfl) T.gRight T.FRight.kp T.bRight .nil pass0 (pa_cons (pv 2) pa_nil))) pa_nil)))) (pss_one (ps_ret pe_bl)) pss_nil))))
      (pss_one (ps_ret pe_bl))), ?_⟩
    obtain ⟨Nn, hN, n0, n8⟩ : ∃ N : Int, (if (if (6 : Int) < ((ns.map V.int).length : Int) then (6 : Int) else ((ns.map V.int).length : Int)) > 2 then (if (6 : Int) < ((ns.map V.int).length : Int) then (6 : Int) else ((ns.map V.int).length : Int)) else 2) = N ∧ 0 ≤ N ∧ N ≤ 6 := by
      refine ⟨_, rfl, ?_, ?_⟩
      · split <;> split <;> omega
      · split <;> split <;> omega
    refine ⟨_, rfl, a, _, rfl, .inl hS, _, _, rfl, 2, _, rfl, Nn, by rw [← hN], by omega, by omega, for_range (lo := 0) (n := Nn.toNat) (fun i σ H' => ExtN H H' ∧ Tabs (tb1 K c1) H' ∧ ∃ w4 w5 w6, σ = [some (.ref a), w4, w5, w6]) ⟨ExtN.refl _, hT, none, none, none, rfl⟩ ?_ ?_⟩
    · rintro i σ H' hi ⟨zH, tH, w4, w5, w6, rfl⟩
      have hi8 : (i : Int) < 6 := by omega
      refine ⟨_, rfl, _, rfl, a, ns, 0 + (i : Int), rfl, seq_extN hS zH, hlen, by omega, by omega, fun c J1 zc => ?_⟩
      refine ⟨c, rfl, fun p J2 hp zs hsrc => ?_⟩
      have hp0 : H' p = none := zc.free hp
      have t2 := (tH.ext zc).ext zs
      refine ⟨8, rfl, by decide, by decide, fun D hD => lc_range (lo := 0) (n := 8) (fun j H2 => SrcAt H2 p ∧ Tabs (tb1 K c1) H2 ∧ (∀ c u, c ≠ p → c ≠ D → J2 c = some u → (∀ ps, u ≠ .tbl ps) → H2 c = some u) ∧ H2 D = some (.lst ((List.replicate j true).map V.bl))) ?_ ?_ ?_⟩
      · obtain ⟨b1, b2, b3, eb⟩ := id hsrc
        exact ⟨⟨b1, b2, b3, keep eb hD⟩, t2.ext fun b o e => keep e hD, fun c u _ _ e _ => keep e hD, upd_same⟩
      · rintro j H2 hj ⟨hs2, tt2, k2, eD⟩
        have npD : D ≠ p := (hsrc.ne hD).symm
        refine ⟨rfl, _, rfl, p, rfl, hs2, tt2, fun H3 s3 k3 t3 => ⟨_, k3 D _ npD eD (fun ps z => by cases z), ?_, ?_, ?_, ?_, ?_⟩⟩
        · rw [List.length_map, List.length_replicate]
          exact Nat.lt_trans hj (by decide)
        · obtain ⟨b1, b2, b3, eb⟩ := s3
          exact ⟨b1, b2, b3, by rw [upd_ne (Ne.symm npD)]; exact eb⟩
        · exact tabs_lst t3 (k3 D _ npD eD (fun ps z => by cases z))
        · intro c u n1 n2 e hu
          rw [upd_ne n2]
          exact k3 c u n1 (k2 c u n1 n2 e hu) hu
        · rw [upd_same, List.replicate_succ', List.map_append]
          rfl
      · rintro H2 ⟨hs2, tt2, k2, eD⟩
        refine ⟨D, List.replicate 8 true, rfl, SqL.of eD, _, rfl, iteF ⟨fun c u e hu => ?_, tt2, _, _, _, rfl⟩⟩
        have e2 : J2 c = some u := zs _ _ (zc _ _ (zH c u e hu))
        exact k2 c u (ne_of_none (zc _ _ (zH c u e hu)) hp) (ne_of_none e2 hD) e2 hu
    · rintro σ H' ⟨zH, tH, w4, w5, w6, rfl⟩
      exact q _
theorem law_start {a : Addr} {ns : List Int} {H : Hp} {E : XK} (hl : ns.length ≤ 63) (hH : ∀ p ∈ [c1].map (fun c => (c, SFY.tabOf K c)), H p.2 = some (.tbl #[])) (hS : SqL K H a (ns.map V.int)) : spLaw K (tb1 K c1) [.ref a] H (fun v _ => v = .bl true) E := by
  refine ⟨a, ns, rfl, hS, hl, fun r hr => ?_, fun _ => rfl⟩
  simp only [tb1, List.mem_cons, List.not_mem_nil, or_false] at hr
  have e : H (SFY.tabOf K c1) = some (.tbl #[]) := hH (c1, SFY.tabOf K c1) (by simp)
  rcases hr with rfl
  exact ⟨#[], e, trivial, fun pos cv h => nomatch h⟩
end
end T06

namespace T06
open PySem PySem.Spec PyProof.Rows L2 SF SQ
theorem mem12 {p : Nat → Prop} (a0 : p 0) (a1 : p 1) (a2 : p 2) (a3 : p 3) (a4 : p 4) (a5 : p 5) (a6 : p 6) (a7 : p 7) (a8 : p 8) (a9 : p 9) (a10 : p 10) (a11 : p 11) (i : Nat) (h : i < 12) : p i := by
  match i, h with
  | 0, _ => exact a0
  | 1, _ => exact a1
  | 2, _ => exact a2
  | 3, _ => exact a3
  | 4, _ => exact a4
  | 5, _ => exact a5
  | 6, _ => exact a6
  | 7, _ => exact a7
  | 8, _ => exact a8
  | 9, _ => exact a9
  | 10, _ => exact a10
  | 11, _ => exact a11
theorem mem3 {p : Nat → Prop} (a0 : p 0) (a1 : p 1) (a2 : p 2) (i : Nat) (h : i < 3) : p i := by
  match i, h with
  | 0, _ => exact a0
  | 1, _ => exact a1
  | 2, _ => exact a2
theorem mem7 {p : String → Prop} (a : p "int") (b : p "bool") (c : p "str") (d : p "NoneType") (e : p "list") (f : p "tuple") (g : p "dict") : ∀ T ∈ kinds, p T := by
  intro T h
  simp only [kinds, List.mem_cons, List.not_mem_nil, or_false] at h
  rcases h with rfl | rfl | rfl | rfl | rfl | rfl | rfl <;> assumption
theorem bnd {a b : Bool} (h : (a && b) = true) : a = true ∧ b = true := Bool.and_eq_true_iff.mp h
theorem law_binds {K : PySem.W.Frag} {f : Addr} {fd : FuncData} (F : Fun K "law" "law" sLaw f fd) (s : Shared) (u : Value) : BindsTo s fd ⟨[u], []⟩ [("_law_cells", u)] := by
  obtain ⟨oc, od, kV, doc, pm, an, cdv, ct, osl, rfl, lk, hcd⟩ := F.ex
  exact .of_eq rfl
theorem all_in {l : PySem.W.OpenLaw} {w : World} {K : PySem.W.Frag} {h : Heap} {mg : Str → Option Value} {fa : Addr} (X : K.In h) (G : h.Ns mainGlobals mg) (hfa : mg "law" = some (.ref fa)) (c : SJ.SaysJ fnJ exJ K) : SFY.LawAtG l w K 11 63 "_law_cells" mg fa [SJ.tabAt K (He.ga K "_law_right")] := by
  have hh := c.facts
  obtain ⟨h0, hh⟩ := bnd hh
  obtain ⟨h1, hh⟩ := bnd hh
  obtain ⟨h2, hh⟩ := bnd hh
  obtain ⟨h3, hh⟩ := bnd hh
  obtain ⟨h4, hh⟩ := bnd hh
  obtain ⟨h5, hh⟩ := bnd hh
  obtain ⟨h6, hh⟩ := bnd hh
  have h7 := hh
  have e := hfa.symm.trans (PySem.W.mg_of X G (SJ.decB (p := PySem.W.nsIn K mainGlobals "law" = some (some (.ref (He.ga K "law")))) (SJ.nthB h3 12)))
  cases e
  obtain ⟨fdIsW, HIsW⟩ := c.def_ 0 (d := dj0) rfl
  have FIsW : Fun K "is_whole" "is_whole" sIsW (He.ga K "is_whole") fdIsW := SJ.fun_of HIsW
  have bIsW := FIsW.binds (ps := ["value"]) fun _ _ _ _ _ _ us hl => match us, hl with | [_], _ => rfl
  obtain ⟨fdIsN, HIsN⟩ := c.def_ 1 (d := dj1) rfl
  have FIsN : Fun K "is_number" "is_number" sIsN (He.ga K "is_number") fdIsN := SJ.fun_of HIsN
  have bIsN := FIsN.binds (ps := ["value"]) fun _ _ _ _ _ _ us hl => match us, hl with | [_], _ => rfl
  obtain ⟨fdAs, HAs⟩ := c.def_ 2 (d := dj2) rfl
  have FAs : Fun K "as_ratio" "as_ratio" sAs (He.ga K "as_ratio") fdAs := SJ.fun_of HAs
  have bAs := FAs.binds (ps := ["number"]) fun _ _ _ _ _ _ us hl => match us, hl with | [_], _ => rfl
  obtain ⟨fdSum, HSum⟩ := c.def_ 3 (d := dj3) rfl
  have FSum : Fun K "_ratio_sum" "_ratio_sum" sSum (He.ga K "_ratio_sum") fdSum := SJ.fun_of HSum
  have bSum := FSum.binds (ps := ["left", "right"]) fun _ _ _ _ _ _ us hl => match us, hl with | [_, _], _ => rfl
  obtain ⟨fdProd, HProd⟩ := c.def_ 4 (d := dj4) rfl
  have FProd : Fun K "_product" "_product" sProd (He.ga K "_product") fdProd := SJ.fun_of HProd
  have bProd := FProd.binds (ps := ["left", "right"]) fun _ _ _ _ _ _ us hl => match us, hl with | [_, _], _ => rfl
  obtain ⟨fdInv, HInv⟩ := c.def_ 5 (d := dj5) rfl
  have FInv : Fun K "_inverse" "_inverse" sInv (He.ga K "_inverse") fdInv := SJ.fun_of HInv
  have bInv := FInv.binds (ps := ["ratio"]) fun _ _ _ _ _ _ us hl => match us, hl with | [_], _ => rfl
  obtain ⟨fdFlo, HFlo⟩ := c.def_ 6 (d := dj6) rfl
  have FFlo : Fun K "_floor" "_floor" sFlo (He.ga K "_floor") fdFlo := SJ.fun_of HFlo
  have bFlo := FFlo.binds (ps := ["left", "right"]) fun _ _ _ _ _ _ us hl => match us, hl with | [_, _], _ => rfl
  obtain ⟨fdRem, HRem⟩ := c.def_ 7 (d := dj7) rfl
  have FRem : Fun K "_remainder" "_remainder" sRem (He.ga K "_remainder") fdRem := SJ.fun_of HRem
  have bRem := FRem.binds (ps := ["left", "right"]) fun _ _ _ _ _ _ us hl => match us, hl with | [_, _], _ => rfl
  obtain ⟨fdWPo, HWPo⟩ := c.def_ 8 (d := dj8) rfl
  have FWPo : Fun K "_whole_power" "_whole_power" sWPo (He.ga K "_whole_power") fdWPo := SJ.fun_of HWPo
  have bWPo := FWPo.binds (ps := ["base", "times"]) fun _ _ _ _ _ _ us hl => match us, hl with | [_, _], _ => rfl
  obtain ⟨fdIsT, HIsT⟩ := c.def_ 9 (d := dj9) rfl
  have FIsT : Fun K "_is_text" "_is_text" sIsT (He.ga K "_is_text") fdIsT := SJ.fun_of HIsT
  have bIsT := FIsT.binds (ps := ["text"]) fun _ _ _ _ _ _ us hl => match us, hl with | [_], _ => rfl
  obtain ⟨fdIsP, HIsP⟩ := c.def_ 10 (d := dj10) rfl
  have FIsP : Fun K "_is_positive_text" "_is_positive_text" sIsP (He.ga K "_is_positive_text") fdIsP := SJ.fun_of HIsP
  have bIsP := FIsP.binds (ps := ["text"]) fun _ _ _ _ _ _ us hl => match us, hl with | [_], _ => rfl
  obtain ⟨fdTop, HTop⟩ := c.def_ 11 (d := dj11) rfl
  have FTop : Fun K "top" "Ratio.top" sTop (SJ.recF K (He.ma K (He.ga K "Ratio") "top") "property") fdTop := SJ.fun_of HTop
  have bTop := FTop.binds (ps := ["self"]) fun _ _ _ _ _ _ us hl => match us, hl with | [_], _ => rfl
  obtain ⟨fdBot, HBot⟩ := c.def_ 12 (d := dj12) rfl
  have FBot : Fun K "bottom" "Ratio.bottom" sBot (SJ.recF K (He.ma K (He.ga K "Ratio") "bottom") "property") fdBot := SJ.fun_of HBot
  have bBot := FBot.binds (ps := ["self"]) fun _ _ _ _ _ _ us hl => match us, hl with | [_], _ => rfl
  obtain ⟨fdAdd, HAdd⟩ := c.def_ 13 (d := dj13) rfl
  have FAdd : Fun K "__add__" "Ratio.__add__" sAdd (He.ma K (He.ga K "Ratio") "__add__") fdAdd := SJ.fun_of HAdd
  have bAdd := FAdd.binds (ps := ["self", "other"]) fun _ _ _ _ _ _ us hl => match us, hl with | [_, _], _ => rfl
  obtain ⟨fdRadd, HRadd⟩ := c.def_ 14 (d := dj14) rfl
  have FRadd : Fun K "__radd__" "Ratio.__radd__" sRadd (He.ma K (He.ga K "Ratio") "__radd__") fdRadd := SJ.fun_of HRadd
  have bRadd := FRadd.binds (ps := ["self", "other"]) fun _ _ _ _ _ _ us hl => match us, hl with | [_, _], _ => rfl
  obtain ⟨fdSub, HSub⟩ := c.def_ 15 (d := dj15) rfl
  have FSub : Fun K "__sub__" "Ratio.__sub__" sSub (He.ma K (He.ga K "Ratio") "__sub__") fdSub := SJ.fun_of HSub
  have bSub := FSub.binds (ps := ["self", "other"]) fun _ _ _ _ _ _ us hl => match us, hl with | [_, _], _ => rfl
  obtain ⟨fdRsub, HRsub⟩ := c.def_ 16 (d := dj16) rfl
  have FRsub : Fun K "__rsub__" "Ratio.__rsub__" sRsub (He.ma K (He.ga K "Ratio") "__rsub__") fdRsub := SJ.fun_of HRsub
  have bRsub := FRsub.binds (ps := ["self", "other"]) fun _ _ _ _ _ _ us hl => match us, hl with | [_, _], _ => rfl
  obtain ⟨fdMul, HMul⟩ := c.def_ 17 (d := dj17) rfl
  have FMul : Fun K "__mul__" "Ratio.__mul__" sMul (He.ma K (He.ga K "Ratio") "__mul__") fdMul := SJ.fun_of HMul
  have bMul := FMul.binds (ps := ["self", "other"]) fun _ _ _ _ _ _ us hl => match us, hl with | [_, _], _ => rfl
  obtain ⟨fdRmul, HRmul⟩ := c.def_ 18 (d := dj18) rfl
  have FRmul : Fun K "__rmul__" "Ratio.__rmul__" sRmul (He.ma K (He.ga K "Ratio") "__rmul__") fdRmul := SJ.fun_of HRmul
  have bRmul := FRmul.binds (ps := ["self", "other"]) fun _ _ _ _ _ _ us hl => match us, hl with | [_, _], _ => rfl
  obtain ⟨fdFDi, HFDi⟩ := c.def_ 19 (d := dj19) rfl
  have FFDi : Fun K "__floordiv__" "Ratio.__floordiv__" sFDi (He.ma K (He.ga K "Ratio") "__floordiv__") fdFDi := SJ.fun_of HFDi
  have bFDi := FFDi.binds (ps := ["self", "other"]) fun _ _ _ _ _ _ us hl => match us, hl with | [_, _], _ => rfl
  obtain ⟨fdRFDi, HRFDi⟩ := c.def_ 20 (d := dj20) rfl
  have FRFDi : Fun K "__rfloordiv__" "Ratio.__rfloordiv__" sRFDi (He.ma K (He.ga K "Ratio") "__rfloordiv__") fdRFDi := SJ.fun_of HRFDi
  have bRFDi := FRFDi.binds (ps := ["self", "other"]) fun _ _ _ _ _ _ us hl => match us, hl with | [_, _], _ => rfl
  obtain ⟨fdMod, HMod⟩ := c.def_ 21 (d := dj21) rfl
  have FMod : Fun K "__mod__" "Ratio.__mod__" sMod (He.ma K (He.ga K "Ratio") "__mod__") fdMod := SJ.fun_of HMod
  have bMod := FMod.binds (ps := ["self", "other"]) fun _ _ _ _ _ _ us hl => match us, hl with | [_, _], _ => rfl
  obtain ⟨fdRMod, HRMod⟩ := c.def_ 22 (d := dj22) rfl
  have FRMod : Fun K "__rmod__" "Ratio.__rmod__" sRMod (He.ma K (He.ga K "Ratio") "__rmod__") fdRMod := SJ.fun_of HRMod
  have bRMod := FRMod.binds (ps := ["self", "other"]) fun _ _ _ _ _ _ us hl => match us, hl with | [_, _], _ => rfl
  obtain ⟨fdPow, HPow⟩ := c.def_ 23 (d := dj23) rfl
  have FPow : Fun K "__pow__" "Ratio.__pow__" sPow (He.ma K (He.ga K "Ratio") "__pow__") fdPow := SJ.fun_of HPow
  have bPow := FPow.binds (ps := ["self", "other"]) fun _ _ _ _ _ _ us hl => match us, hl with | [_, _], _ => rfl
  obtain ⟨fdNeg, HNeg⟩ := c.def_ 24 (d := dj24) rfl
  have FNeg : Fun K "__neg__" "Ratio.__neg__" sNeg (He.ma K (He.ga K "Ratio") "__neg__") fdNeg := SJ.fun_of HNeg
  have bNeg := FNeg.binds (ps := ["self"]) fun _ _ _ _ _ _ us hl => match us, hl with | [_], _ => rfl
  obtain ⟨fdAbs, HAbs⟩ := c.def_ 25 (d := dj25) rfl
  have FAbs : Fun K "__abs__" "Ratio.__abs__" sAbs (He.ma K (He.ga K "Ratio") "__abs__") fdAbs := SJ.fun_of HAbs
  have bAbs := FAbs.binds (ps := ["self"]) fun _ _ _ _ _ _ us hl => match us, hl with | [_], _ => rfl
  obtain ⟨fdBool, HBool⟩ := c.def_ 26 (d := dj26) rfl
  have FBool : Fun K "__bool__" "Ratio.__bool__" sBool (He.ma K (He.ga K "Ratio") "__bool__") fdBool := SJ.fun_of HBool
  have bBool := FBool.binds (ps := ["self"]) fun _ _ _ _ _ _ us hl => match us, hl with | [_], _ => rfl
  obtain ⟨fdEq, HEq⟩ := c.def_ 27 (d := dj27) rfl
  have FEq : Fun K "__eq__" "Ratio.__eq__" sEq (He.ma K (He.ga K "Ratio") "__eq__") fdEq := SJ.fun_of HEq
  have bEq := FEq.binds (ps := ["self", "other"]) fun _ _ _ _ _ _ us hl => match us, hl with | [_, _], _ => rfl
  obtain ⟨fdStr, HStr⟩ := c.def_ 28 (d := dj28) rfl
  have FStr : Fun K "__str__" "Ratio.__str__" sStr (He.ma K (He.ga K "Ratio") "__str__") fdStr := SJ.fun_of HStr
  have bStr := FStr.binds (ps := ["self"]) fun _ _ _ _ _ _ us hl => match us, hl with | [_], _ => rfl
  obtain ⟨fdRepr, HRepr⟩ := c.def_ 29 (d := dj29) rfl
  have FRepr : Fun K "__repr__" "Ratio.__repr__" sRepr (He.ma K (He.ga K "Ratio") "__repr__") fdRepr := SJ.fun_of HRepr
  have bRepr := FRepr.binds (ps := ["self"]) fun _ _ _ _ _ _ us hl => match us, hl with | [_], _ => rfl
  obtain ⟨fdOver, HOver⟩ := c.def_ 30 (d := dj30) rfl
  have FOver : Fun K "over" "Ratio.over" sOver (He.ma K (He.ga K "Ratio") "over") fdOver := SJ.fun_of HOver
  have bOver := FOver.binds (ps := ["self", "other"]) fun _ _ _ _ _ _ us hl => match us, hl with | [_, _], _ => rfl
  obtain ⟨fdPower, HPower⟩ := c.def_ 31 (d := dj31) rfl
  have FPower : Fun K "power" "Ratio.power" sPower (He.ma K (He.ga K "Ratio") "power") fdPower := SJ.fun_of HPower
  have bPower := FPower.binds (ps := ["self", "exponent"]) fun _ _ _ _ _ _ us hl => match us, hl with | [_, _], _ => rfl
  obtain ⟨fdCell, HCell⟩ := c.def_ 32 (d := dj32) rfl
  have FCell : Fun K "_law_cell" "_law_cell" sCell (He.ga K "_law_cell") fdCell := SJ.fun_of HCell
  have bCell := FCell.binds (ps := ["_law_cells", "_law_k"]) fun _ _ _ _ _ _ us hl => match us, hl with | [_, _], _ => rfl
  obtain ⟨fdSrc, HSrc⟩ := c.def_ 33 (d := dj33) rfl
  have FSrc : Fun K "_law_source" "_law_source" sSrc (He.ga K "_law_source") fdSrc := SJ.fun_of HSrc
  have bSrc := FSrc.binds (ps := ["_law_cell_here"]) fun _ _ _ _ _ _ us hl => match us, hl with | [_], _ => rfl
  obtain ⟨fdDraw, HDraw⟩ := c.def_ 34 (d := dj34) rfl
  have FDraw : Fun K "_law_draw" "_law_draw" sDraw (He.ga K "_law_draw") fdDraw := SJ.fun_of HDraw
  have bDraw := FDraw.binds (ps := ["_law_source_here", "_law_many"]) fun _ _ _ _ _ _ us hl => match us, hl with | [_, _], _ => rfl
  obtain ⟨fdWho, HWho⟩ := c.def_ 35 (d := dj35) rfl
  have FWho : Fun K "_law_whole" "_law_whole" sWho (He.ga K "_law_whole") fdWho := SJ.fun_of HWho
  have bWho := FWho.binds (ps := ["_law_source_here"]) fun _ _ _ _ _ _ us hl => match us, hl with | [_], _ => rfl
  obtain ⟨fdWord, HWord⟩ := c.def_ 36 (d := dj36) rfl
  have FWord : Fun K "_law_word" "_law_word" sWord (He.ga K "_law_word") fdWord := SJ.fun_of HWord
  have bWord := FWord.binds (ps := ["_law_e"]) fun _ _ _ _ _ _ us hl => match us, hl with | [_], _ => rfl
  obtain ⟨fdFields, HFields⟩ := c.def_ 37 (d := dj37) rfl
  have FFields : Fun K "_law_fields" "_law_fields" sFields (He.ga K "_law_fields") fdFields := SJ.fun_of HFields
  have bFields := FFields.binds (ps := ["_law_e", "_law_word_here"]) fun _ _ _ _ _ _ us hl => match us, hl with | [_, _], _ => rfl
  obtain ⟨fdCaught, HCaught⟩ := c.def_ 38 (d := dj38) rfl
  have FCaught : Fun K "_law_caught" "_law_caught" sCaught (He.ga K "_law_caught") fdCaught := SJ.fun_of HCaught
  have bCaught := FCaught.binds (ps := ["_law_action"]) fun _ _ _ _ _ _ us hl => match us, hl with | [_], _ => rfl
  obtain ⟨fdThing, HThing⟩ := c.def_ 39 (d := dj39) rfl
  have FThing : Fun K "_law_thing" "_law_thing" sThing (He.ga K "_law_thing") fdThing := SJ.fun_of HThing
  have bThing := FThing.binds (ps := ["_law_source_here"]) fun _ _ _ _ _ _ us hl => match us, hl with | [_], _ => rfl
  obtain ⟨fdLWh, HLWh⟩ := c.def_ 40 (d := dj40) rfl
  have FLWh : Fun K "_law_is_whole" "_law_is_whole" sLWh (He.ga K "_law_is_whole") fdLWh := SJ.fun_of HLWh
  have bLWh := FLWh.binds (ps := ["_law_thing_here"]) fun _ _ _ _ _ _ us hl => match us, hl with | [_], _ => rfl
  obtain ⟨fdMDue, HMDue⟩ := c.def_ 41 (d := dj41) rfl
  have FMDue : Fun K "_law_made_due" "_law_made_due" sMDue (He.ga K "_law_made_due") fdMDue := SJ.fun_of HMDue
  have bMDue := FMDue.binds (ps := ["_law_upper", "_law_lower"]) fun _ _ _ _ _ _ us hl => match us, hl with | [_, _], _ => rfl
  obtain ⟨fdIDue, HIDue⟩ := c.def_ 42 (d := dj42) rfl
  have FIDue : Fun K "_law_is_due" "_law_is_due" sIDue (He.ga K "_law_is_due") fdIDue := SJ.fun_of HIDue
  have bIDue := FIDue.binds (ps := ["_law_seen", "_law_due"]) fun _ _ _ _ _ _ us hl => match us, hl with | [_, _], _ => rfl
  obtain ⟨fdODue, HODue⟩ := c.def_ 43 (d := dj43) rfl
  have FODue : Fun K "_law_over_due" "_law_over_due" sODue (He.ga K "_law_over_due") fdODue := SJ.fun_of HODue
  have bODue := FODue.binds (ps := ["_law_by"]) fun _ _ _ _ _ _ us hl => match us, hl with | [_], _ => rfl
  obtain ⟨fdPDue, HPDue⟩ := c.def_ 44 (d := dj44) rfl
  have FPDue : Fun K "_law_power_due" "_law_power_due" sPDue (He.ga K "_law_power_due") fdPDue := SJ.fun_of HPDue
  have bPDue := FPDue.binds (ps := ["_law_base", "_law_degree"]) fun _ _ _ _ _ _ us hl => match us, hl with | [_, _], _ => rfl
  obtain ⟨fdRight, HRight⟩ := c.def_ 45 (d := dj45) rfl
  have FRight : Fun K "_law_right" "_law_right" sRight (He.ga K "_law_right") fdRight := SJ.fun_of HRight
  have bRight := FRight.binds (ps := ["_law_source_here"]) fun _ _ _ _ _ _ us hl => match us, hl with | [_], _ => rfl
  obtain ⟨fdLaw, HLaw⟩ := c.def_ 46 (d := dj46) rfl
  have FLaw : Fun K "law" "law" sLaw (He.ga K "law") fdLaw := SJ.fun_of HLaw
  have bLaw := FLaw.binds (ps := ["_law_cells"]) fun _ _ _ _ _ _ us hl => match us, hl with | [_], _ => rfl
  obtain ⟨fdRd, HRd⟩ := c.def_ 47 (d := dj47) rfl
  have FRd : Fun K "read" "Ratio.read" sRd (SJ.recF K (SJ.clsP K (He.ga K "Ratio") "read") "classmethod") fdRd := SJ.fun_of HRd
  have bRd := FRd.binds (ps := ["cls", "text"]) fun _ _ _ _ _ _ us hl => match us, hl with | [_, _], _ => rfl
  obtain ⟨fdI, HI⟩ := c.def_ 48 (d := dj48) rfl
  have FI : FunD K "__init__" "Ratio.__init__" (defArgs sIni) (defBody sIni) (defScope sIni) [V.int 1] [] (He.ma K (He.ga K "Ratio") "__init__") fdI := HI
  obtain ⟨fdENum, HENum⟩ := c.def_ 49 (d := dj49) rfl
  have FENum : Fun K "__init__" "InvalidNumber.__init__" sENum (He.ma K (He.ga K "InvalidNumber") "__init__") fdENum := SJ.fun_of HENum
  have bENum := FENum.binds (ps := ["self", "given"]) fun _ _ _ _ _ _ us hl => match us, hl with | [_, _], _ => rfl
  have ONum : OEK K mg "InvalidNumber" "InvalidNumber.__init__" sENum (He.ga K "InvalidNumber") (He.ma K (He.ga K "InvalidNumber") "__init__") fdENum := ⟨PySem.W.mg_of X G (SJ.decB (p := PySem.W.nsIn K mainGlobals "InvalidNumber" = some (some (.ref (He.ga K "InvalidNumber")))) (SJ.nthB h6 14)), (show (SQ.oexB K (He.ga K "InvalidNumber") (He.ma K (He.ga K "InvalidNumber") "__init__")) = true from (SJ.nthB h7 14)), FENum, bENum⟩
  obtain ⟨fdETxt, HETxt⟩ := c.def_ 50 (d := dj50) rfl
  have FETxt : Fun K "__init__" "InvalidText.__init__" sETxt (He.ma K (He.ga K "InvalidText") "__init__") fdETxt := SJ.fun_of HETxt
  have bETxt := FETxt.binds (ps := ["self", "given"]) fun _ _ _ _ _ _ us hl => match us, hl with | [_, _], _ => rfl
  have OTxt : OEK K mg "InvalidText" "InvalidText.__init__" sETxt (He.ga K "InvalidText") (He.ma K (He.ga K "InvalidText") "__init__") fdETxt := ⟨PySem.W.mg_of X G (SJ.decB (p := PySem.W.nsIn K mainGlobals "InvalidText" = some (some (.ref (He.ga K "InvalidText")))) (SJ.nthB h6 15)), (show (SQ.oexB K (He.ga K "InvalidText") (He.ma K (He.ga K "InvalidText") "__init__")) = true from (SJ.nthB h7 15)), FETxt, bETxt⟩
  obtain ⟨fdECnt, HECnt⟩ := c.def_ 51 (d := dj51) rfl
  have FECnt : Fun K "__init__" "InvalidCount.__init__" sECnt (He.ma K (He.ga K "InvalidCount") "__init__") fdECnt := SJ.fun_of HECnt
  have bECnt := FECnt.binds (ps := ["self", "given"]) fun _ _ _ _ _ _ us hl => match us, hl with | [_, _], _ => rfl
  have OCnt : OEK K mg "InvalidCount" "InvalidCount.__init__" sECnt (He.ga K "InvalidCount") (He.ma K (He.ga K "InvalidCount") "__init__") fdECnt := ⟨PySem.W.mg_of X G (SJ.decB (p := PySem.W.nsIn K mainGlobals "InvalidCount" = some (some (.ref (He.ga K "InvalidCount")))) (SJ.nthB h6 16)), (show (SQ.oexB K (He.ga K "InvalidCount") (He.ma K (He.ga K "InvalidCount") "__init__")) = true from (SJ.nthB h7 16)), FECnt, bECnt⟩
  obtain ⟨i0, v0, bI⟩ := FI.binds1 (ps := ["self", "top", "bottom"]) 3 1 (by simp) rfl (fun T kV doc pm an cdv ct us its h1 h2 => match us, its, h1, h2 with | [_, _, _], [_], _, _ => ⟨_, rfl, rfl⟩)
  cases v0
  obtain ⟨i1, v1, b1⟩ := FI.binds1 (ps := ["self", "top", "bottom"]) 2 0 (by simp) rfl (fun T kV doc pm an cdv ct us its h1 h2 => match us, its, h1, h2 with | [_, _], [_], _, _ => ⟨_, rfl, rfl⟩)
  obtain ⟨tkP, eMP⟩ := SJ.isInt_ok X G (show (SJ.isInt K "MOST_POWER" 20) = true from (SJ.nthB h5 3))
  obtain ⟨tyadd, htadd⟩ := Option.isSome_iff_exists.mp (show ((PySem.W.findIn K (.type "int") "__add__").isSome) = true from (SJ.nthB h5 10))
  obtain ⟨tzadd, huadd⟩ := Option.isSome_iff_exists.mp (show ((PySem.W.findIn K (.type "int") "__radd__").isSome) = true from (SJ.nthB h5 11))
  obtain ⟨tysub, htsub⟩ := Option.isSome_iff_exists.mp (show ((PySem.W.findIn K (.type "int") "__sub__").isSome) = true from (SJ.nthB h5 12))
  obtain ⟨tzsub, husub⟩ := Option.isSome_iff_exists.mp (show ((PySem.W.findIn K (.type "int") "__rsub__").isSome) = true from (SJ.nthB h5 13))
  obtain ⟨tymul, htmul⟩ := Option.isSome_iff_exists.mp (show ((PySem.W.findIn K (.type "int") "__mul__").isSome) = true from (SJ.nthB h5 14))
  obtain ⟨tzmul, humul⟩ := Option.isSome_iff_exists.mp (show ((PySem.W.findIn K (.type "int") "__rmul__").isSome) = true from (SJ.nthB h5 15))
  obtain ⟨tyfloordiv, htfloordiv⟩ := Option.isSome_iff_exists.mp (show ((PySem.W.findIn K (.type "int") "__floordiv__").isSome) = true from (SJ.nthB h5 16))
  obtain ⟨tzfloordiv, hufloordiv⟩ := Option.isSome_iff_exists.mp (show ((PySem.W.findIn K (.type "int") "__rfloordiv__").isSome) = true from (SJ.nthB h5 17))
  obtain ⟨tymod, htmod⟩ := Option.isSome_iff_exists.mp (show ((PySem.W.findIn K (.type "int") "__mod__").isSome) = true from (SJ.nthB h5 18))
  obtain ⟨tzmod, humod⟩ := Option.isSome_iff_exists.mp (show ((PySem.W.findIn K (.type "int") "__rmod__").isSome) = true from (SJ.nthB h5 19))
  obtain ⟨typow, htpow⟩ := Option.isSome_iff_exists.mp (show ((PySem.W.findIn K (.type "int") "__pow__").isSome) = true from (SJ.nthB h6 0))
  obtain ⟨tzpow, hupow⟩ := Option.isSome_iff_exists.mp (show ((PySem.W.findIn K (.type "int") "__rpow__").isSome) = true from (SJ.nthB h6 1))
  have RR : RC K mg (He.ga K "Ratio") := { cl := ⟨(show (PySem.W.plainGet K (He.ga K "Ratio") Str.empty) = true from (SJ.nthB h4 3)), (show (PySem.W.hasDictIn K (He.ga K "Ratio")) = true from (SJ.nthB h4 4)), (show (PySem.W.plainOver K (He.ga K "Ratio")) = true from (SJ.nthB h4 5)), (SJ.decB (p := PySem.W.findIn K (.ref (He.ga K "Ratio")) "__setattr__" = some (some (.builtin "object.__setattr__"))) (SJ.nthB h4 6))⟩, nT := (SJ.decB (p := PySem.W.findIn K (.ref (He.ga K "Ratio")) "_top" = some none) (SJ.nthB h4 7)), nB := (SJ.decB (p := PySem.W.findIn K (.ref (He.ga K "Ratio")) "_bottom" = some none) (SJ.nthB h4 8)), mgC := PySem.W.mg_of X G (SJ.decB (p := PySem.W.nsIn K mainGlobals "Ratio" = some (some (.ref (He.ga K "Ratio")))) (SJ.nthB h0 0)), isi := (PySem.W.mg_none_of X G (SJ.decB (p := PySem.W.nsIn K mainGlobals "isinstance" = some none) (SJ.nthB h6 11))), int_ := (PySem.W.mg_none_of X G (SJ.decB (p := PySem.W.nsIn K mainGlobals "int" = some none) (SJ.nthB h6 3))), bool_ := (PySem.W.mg_none_of X G (SJ.decB (p := PySem.W.nsIn K mainGlobals "bool" = some none) (SJ.nthB h6 12))), str_ := (PySem.W.mg_none_of X G (SJ.decB (p := PySem.W.nsIn K mainGlobals "str" = some none) (SJ.nthB h6 13))), abs_ := (PySem.W.mg_none_of X G (SJ.decB (p := PySem.W.nsIn K mainGlobals "abs" = some none) (SJ.nthB h6 4))), range_ := (PySem.W.mg_none_of X G (SJ.decB (p := PySem.W.nsIn K mainGlobals "range" = some none) (SJ.nthB h6 6))), repr_ := (PySem.W.mg_none_of X G (SJ.decB (p := PySem.W.nsIn K mainGlobals "repr" = some none) (SJ.nthB h6 10))), gcd := PySem.W.mg_of X G (SJ.decB (p := PySem.W.nsIn K mainGlobals "gcd" = some (some (.builtin "math.gcd"))) (SJ.nthB h5 2)), kB := mem7 (p := fun T => PySem.W.kitOne K (.type T) (.ref (He.ga K "Ratio")) = some false) (SJ.decB (p := PySem.W.kitOne K (.type "int") (.ref (He.ga K "Ratio")) = some false) (SJ.nthB h4 9)) (SJ.decB (p := PySem.W.kitOne K (.type "bool") (.ref (He.ga K "Ratio")) = some false) (SJ.nthB h4 10)) (SJ.decB (p := PySem.W.kitOne K (.type "str") (.ref (He.ga K "Ratio")) = some false) (SJ.nthB h4 11)) (SJ.decB (p := PySem.W.kitOne K (.type "NoneType") (.ref (He.ga K "Ratio")) = some false) (SJ.nthB h4 12)) (SJ.decB (p := PySem.W.kitOne K (.type "list") (.ref (He.ga K "Ratio")) = some false) (SJ.nthB h4 13)) (SJ.decB (p := PySem.W.kitOne K (.type "tuple") (.ref (He.ga K "Ratio")) = some false) (SJ.nthB h4 14)) (SJ.decB (p := PySem.W.kitOne K (.type "dict") (.ref (He.ga K "Ratio")) = some false) (SJ.nthB h4 15)), kC := (SJ.decB (p := PySem.W.kitOne K (.ref (He.ga K "Ratio")) (.ref (He.ga K "Ratio")) = some true) (SJ.nthB h4 16)), ca := (SJ.decB (p := PySem.W.findIn K (.ref (He.ga K "Ratio")) "__class__" = some (some (.builtin "object.__class__"))) (SJ.nthB h4 18)), cn := (SJ.decB (p := PySem.W.specialIn K (.builtin "object.__class__") "__get__" = some (some (.builtin "getset_descriptor.__get__"))) (SJ.nthB h4 19)), ct := (SJ.decB (p := PySem.W.takesIn K (.builtin "object.__class__") = some true) (SJ.nthB h5 0)), cm := (SJ.decB (p := PySem.W.mroIn K (He.ga K "Ratio") (.type "object") = some true) (SJ.nthB h5 1)) }
  let T : Tx K mg (He.ga K "Ratio") := { rc := RR, kI := (SJ.decB (p := PySem.W.kitOne K (.ref (He.ga K "Ratio")) (.type "int") = some false) (SJ.nthB h4 17)), len := (PySem.W.mg_none_of X G (SJ.decB (p := PySem.W.nsIn K mainGlobals "len" = some none) (SJ.nthB h6 2))), dvm := (PySem.W.mg_none_of X G (SJ.decB (p := PySem.W.nsIn K mainGlobals "divmod" = some none) (SJ.nthB h6 5))), max_ := (PySem.W.mg_none_of X G (SJ.decB (p := PySem.W.nsIn K mainGlobals "max" = some none) (SJ.nthB h6 7))), min_ := (PySem.W.mg_none_of X G (SJ.decB (p := PySem.W.nsIn K mainGlobals "min" = some none) (SJ.nthB h6 8))), all_ := (PySem.W.mg_none_of X G (SJ.decB (p := PySem.W.nsIn K mainGlobals "all" = some none) (SJ.nthB h6 9))), tkP := tkP, mp := eMP, aIni := (He.ma K (He.ga K "Ratio") "__init__"), dIni := fdI, dv := i1, vv := v1, FIni := FI, M := ⟨(show (PySem.W.makesIn K (He.ga K "Ratio")) = true from (SJ.nthB h4 1)), (SJ.decB (p := PySem.W.findIn K (.ref (He.ga K "Ratio")) "__init__" = some (some (.ref (He.ma K (He.ga K "Ratio") "__init__")))) (SJ.nthB h3 18)), (show (PySem.W.isFn K (.ref (He.ma K (He.ga K "Ratio") "__init__"))) = true from (SJ.nthB h3 19)), (show (PySem.W.keepIn K (.ref (He.ga K "Ratio"))) = true from (SJ.nthB h4 2))⟩, b2 := bI, b1 := b1, hNe := ⟨(SJ.decB (p := PySem.W.findIn K (.ref (He.ga K "Ratio")) "__ne__" = some (some (.builtin "object.__ne__"))) (SJ.nthB h4 0))⟩, sf := (show (PySem.W.selfFirst K (He.ga K "Ratio")) = true from (SJ.nthB h5 4)), sIC := ⟨(SJ.decB (p := PySem.W.subIn K (.type "int") (.ref (He.ga K "Ratio")) = some false) (SJ.nthB h5 5))⟩, sCI := (SJ.decB (p := PySem.W.subIn K (.ref (He.ga K "Ratio")) (.type "int") = some false) (SJ.nthB h5 6)), hRp := (SJ.decB (p := PySem.W.findIn K (.ref (He.ga K "Ratio")) "__rpow__" = some none) (SJ.nthB h5 7)), r_floordiv := ⟨_, (SJ.decB (p := PySem.W.findIn K (.ref (He.ga K "Ratio")) "__rfloordiv__" = some (some (.ref (He.ma K (He.ga K "Ratio") "__rfloordiv__")))) (SJ.nthB h5 8)), .inr ⟨_, rfl⟩⟩, r_mod := ⟨_, (SJ.decB (p := PySem.W.findIn K (.ref (He.ga K "Ratio")) "__rmod__" = some (some (.ref (He.ma K (He.ga K "Ratio") "__rmod__")))) (SJ.nthB h5 9)), .inr ⟨_, rfl⟩⟩, t_add := ⟨_, htadd⟩, t_radd := ⟨_, huadd⟩, t_sub := ⟨_, htsub⟩, t_rsub := ⟨_, husub⟩, t_mul := ⟨_, htmul⟩, t_rmul := ⟨_, humul⟩, t_floordiv := ⟨_, htfloordiv⟩, t_rfloordiv := ⟨_, hufloordiv⟩, t_mod := ⟨_, htmod⟩, t_rmod := ⟨_, humod⟩, t_pow := ⟨_, htpow⟩, t_rpow := ⟨_, hupow⟩, aIsW := (He.ga K "is_whole"), dIsW := fdIsW, FIsW := FIsW, bIsW := bIsW, gIsW := PySem.W.mg_of X G (SJ.decB (p := PySem.W.nsIn K mainGlobals "is_whole" = some (some (.ref (He.ga K "is_whole")))) (SJ.nthB h0 1)), aIsN := (He.ga K "is_number"), dIsN := fdIsN, FIsN := FIsN, bIsN := bIsN, gIsN := PySem.W.mg_of X G (SJ.decB (p := PySem.W.nsIn K mainGlobals "is_number" = some (some (.ref (He.ga K "is_number")))) (SJ.nthB h0 2)), aAs := (He.ga K "as_ratio"), dAs := fdAs, FAs := FAs, bAs := bAs, gAs := PySem.W.mg_of X G (SJ.decB (p := PySem.W.nsIn K mainGlobals "as_ratio" = some (some (.ref (He.ga K "as_ratio")))) (SJ.nthB h0 3)), aSum := (He.ga K "_ratio_sum"), dSum := fdSum, FSum := FSum, bSum := bSum, gSum := PySem.W.mg_of X G (SJ.decB (p := PySem.W.nsIn K mainGlobals "_ratio_sum" = some (some (.ref (He.ga K "_ratio_sum")))) (SJ.nthB h0 4)), aProd := (He.ga K "_product"), dProd := fdProd, FProd := FProd, bProd := bProd, gProd := PySem.W.mg_of X G (SJ.decB (p := PySem.W.nsIn K mainGlobals "_product" = some (some (.ref (He.ga K "_product")))) (SJ.nthB h0 5)), aInv := (He.ga K "_inverse"), dInv := fdInv, FInv := FInv, bInv := bInv, gInv := PySem.W.mg_of X G (SJ.decB (p := PySem.W.nsIn K mainGlobals "_inverse" = some (some (.ref (He.ga K "_inverse")))) (SJ.nthB h0 6)), aFlo := (He.ga K "_floor"), dFlo := fdFlo, FFlo := FFlo, bFlo := bFlo, gFlo := PySem.W.mg_of X G (SJ.decB (p := PySem.W.nsIn K mainGlobals "_floor" = some (some (.ref (He.ga K "_floor")))) (SJ.nthB h0 7)), aRem := (He.ga K "_remainder"), dRem := fdRem, FRem := FRem, bRem := bRem, gRem := PySem.W.mg_of X G (SJ.decB (p := PySem.W.nsIn K mainGlobals "_remainder" = some (some (.ref (He.ga K "_remainder")))) (SJ.nthB h0 8)), aWPo := (He.ga K "_whole_power"), dWPo := fdWPo, FWPo := FWPo, bWPo := bWPo, gWPo := PySem.W.mg_of X G (SJ.decB (p := PySem.W.nsIn K mainGlobals "_whole_power" = some (some (.ref (He.ga K "_whole_power")))) (SJ.nthB h0 9)), aIsT := (He.ga K "_is_text"), dIsT := fdIsT, FIsT := FIsT, bIsT := bIsT, gIsT := PySem.W.mg_of X G (SJ.decB (p := PySem.W.nsIn K mainGlobals "_is_text" = some (some (.ref (He.ga K "_is_text")))) (SJ.nthB h0 10)), aIsP := (He.ga K "_is_positive_text"), dIsP := fdIsP, FIsP := FIsP, bIsP := bIsP, gIsP := PySem.W.mg_of X G (SJ.decB (p := PySem.W.nsIn K mainGlobals "_is_positive_text" = some (some (.ref (He.ga K "_is_positive_text")))) (SJ.nthB h0 11)), aTop := (SJ.recF K (He.ma K (He.ga K "Ratio") "top") "property"), dTop := fdTop, FTop := FTop, bTop := bTop, pTop := (He.ma K (He.ga K "Ratio") "top"), PTop := ⟨(SJ.decB (p := PySem.W.findIn K (.ref (He.ga K "Ratio")) "top" = some (some (.ref (He.ma K (He.ga K "Ratio") "top")))) (SJ.nthB h0 12)), (SJ.decB (p := PySem.W.specialIn K (.ref (He.ma K (He.ga K "Ratio") "top")) "__get__" = some (some (.builtin "property.__get__"))) (SJ.nthB h0 13)), (SJ.decB (p := PySem.W.takesIn K (.ref (He.ma K (He.ga K "Ratio") "top")) = some true) (SJ.nthB h0 14)), ⟨_, (SJ.decB (p := PySem.W.recIn K (He.ma K (He.ga K "Ratio") "top") "property" = some (.ref (SJ.recF K (He.ma K (He.ga K "Ratio") "top") "property") :: SJ.recR K (He.ma K (He.ga K "Ratio") "top") "property")) (SJ.nthB h0 15))⟩⟩, aBot := (SJ.recF K (He.ma K (He.ga K "Ratio") "bottom") "property"), dBot := fdBot, FBot := FBot, bBot := bBot, pBot := (He.ma K (He.ga K "Ratio") "bottom"), PBot := ⟨(SJ.decB (p := PySem.W.findIn K (.ref (He.ga K "Ratio")) "bottom" = some (some (.ref (He.ma K (He.ga K "Ratio") "bottom")))) (SJ.nthB h0 16)), (SJ.decB (p := PySem.W.specialIn K (.ref (He.ma K (He.ga K "Ratio") "bottom")) "__get__" = some (some (.builtin "property.__get__"))) (SJ.nthB h0 17)), (SJ.decB (p := PySem.W.takesIn K (.ref (He.ma K (He.ga K "Ratio") "bottom")) = some true) (SJ.nthB h0 18)), ⟨_, (SJ.decB (p := PySem.W.recIn K (He.ma K (He.ga K "Ratio") "bottom") "property" = some (.ref (SJ.recF K (He.ma K (He.ga K "Ratio") "bottom") "property") :: SJ.recR K (He.ma K (He.ga K "Ratio") "bottom") "property")) (SJ.nthB h0 19))⟩⟩, aAdd := (He.ma K (He.ga K "Ratio") "__add__"), dAdd := fdAdd, FAdd := FAdd, bAdd := bAdd, hAdd := ⟨(SJ.decB (p := PySem.W.findIn K (.ref (He.ga K "Ratio")) "__add__" = some (some (.ref (He.ma K (He.ga K "Ratio") "__add__")))) (SJ.nthB h1 0)), (show (PySem.W.isFn K (.ref (He.ma K (He.ga K "Ratio") "__add__"))) = true from (SJ.nthB h1 1))⟩, aRadd := (He.ma K (He.ga K "Ratio") "__radd__"), dRadd := fdRadd, FRadd := FRadd, bRadd := bRadd, hRadd := ⟨(SJ.decB (p := PySem.W.findIn K (.ref (He.ga K "Ratio")) "__radd__" = some (some (.ref (He.ma K (He.ga K "Ratio") "__radd__")))) (SJ.nthB h1 2)), (show (PySem.W.isFn K (.ref (He.ma K (He.ga K "Ratio") "__radd__"))) = true from (SJ.nthB h1 3))⟩, aSub := (He.ma K (He.ga K "Ratio") "__sub__"), dSub := fdSub, FSub := FSub, bSub := bSub, hSub := ⟨(SJ.decB (p := PySem.W.findIn K (.ref (He.ga K "Ratio")) "__sub__" = some (some (.ref (He.ma K (He.ga K "Ratio") "__sub__")))) (SJ.nthB h1 4)), (show (PySem.W.isFn K (.ref (He.ma K (He.ga K "Ratio") "__sub__"))) = true from (SJ.nthB h1 5))⟩, aRsub := (He.ma K (He.ga K "Ratio") "__rsub__"), dRsub := fdRsub, FRsub := FRsub, bRsub := bRsub, hRsub := ⟨(SJ.decB (p := PySem.W.findIn K (.ref (He.ga K "Ratio")) "__rsub__" = some (some (.ref (He.ma K (He.ga K "Ratio") "__rsub__")))) (SJ.nthB h1 6)), (show (PySem.W.isFn K (.ref (He.ma K (He.ga K "Ratio") "__rsub__"))) = true from (SJ.nthB h1 7))⟩, aMul := (He.ma K (He.ga K "Ratio") "__mul__"), dMul := fdMul, FMul := FMul, bMul := bMul, hMul := ⟨(SJ.decB (p := PySem.W.findIn K (.ref (He.ga K "Ratio")) "__mul__" = some (some (.ref (He.ma K (He.ga K "Ratio") "__mul__")))) (SJ.nthB h1 8)), (show (PySem.W.isFn K (.ref (He.ma K (He.ga K "Ratio") "__mul__"))) = true from (SJ.nthB h1 9))⟩, aRmul := (He.ma K (He.ga K "Ratio") "__rmul__"), dRmul := fdRmul, FRmul := FRmul, bRmul := bRmul, hRmul := ⟨(SJ.decB (p := PySem.W.findIn K (.ref (He.ga K "Ratio")) "__rmul__" = some (some (.ref (He.ma K (He.ga K "Ratio") "__rmul__")))) (SJ.nthB h1 10)), (show (PySem.W.isFn K (.ref (He.ma K (He.ga K "Ratio") "__rmul__"))) = true from (SJ.nthB h1 11))⟩, aFDi := (He.ma K (He.ga K "Ratio") "__floordiv__"), dFDi := fdFDi, FFDi := FFDi, bFDi := bFDi, hFDi := ⟨(SJ.decB (p := PySem.W.findIn K (.ref (He.ga K "Ratio")) "__floordiv__" = some (some (.ref (He.ma K (He.ga K "Ratio") "__floordiv__")))) (SJ.nthB h1 12)), (show (PySem.W.isFn K (.ref (He.ma K (He.ga K "Ratio") "__floordiv__"))) = true from (SJ.nthB h1 13))⟩, aRFDi := (He.ma K (He.ga K "Ratio") "__rfloordiv__"), dRFDi := fdRFDi, FRFDi := FRFDi, bRFDi := bRFDi, hRFDi := ⟨(SJ.decB (p := PySem.W.findIn K (.ref (He.ga K "Ratio")) "__rfloordiv__" = some (some (.ref (He.ma K (He.ga K "Ratio") "__rfloordiv__")))) (SJ.nthB h1 14)), (show (PySem.W.isFn K (.ref (He.ma K (He.ga K "Ratio") "__rfloordiv__"))) = true from (SJ.nthB h1 15))⟩, aMod := (He.ma K (He.ga K "Ratio") "__mod__"), dMod := fdMod, FMod := FMod, bMod := bMod, hMod := ⟨(SJ.decB (p := PySem.W.findIn K (.ref (He.ga K "Ratio")) "__mod__" = some (some (.ref (He.ma K (He.ga K "Ratio") "__mod__")))) (SJ.nthB h1 16)), (show (PySem.W.isFn K (.ref (He.ma K (He.ga K "Ratio") "__mod__"))) = true from (SJ.nthB h1 17))⟩, aRMod := (He.ma K (He.ga K "Ratio") "__rmod__"), dRMod := fdRMod, FRMod := FRMod, bRMod := bRMod, hRMod := ⟨(SJ.decB (p := PySem.W.findIn K (.ref (He.ga K "Ratio")) "__rmod__" = some (some (.ref (He.ma K (He.ga K "Ratio") "__rmod__")))) (SJ.nthB h1 18)), (show (PySem.W.isFn K (.ref (He.ma K (He.ga K "Ratio") "__rmod__"))) = true from (SJ.nthB h1 19))⟩, aPow := (He.ma K (He.ga K "Ratio") "__pow__"), dPow := fdPow, FPow := FPow, bPow := bPow, hPow := ⟨(SJ.decB (p := PySem.W.findIn K (.ref (He.ga K "Ratio")) "__pow__" = some (some (.ref (He.ma K (He.ga K "Ratio") "__pow__")))) (SJ.nthB h2 0)), (show (PySem.W.isFn K (.ref (He.ma K (He.ga K "Ratio") "__pow__"))) = true from (SJ.nthB h2 1))⟩, aNeg := (He.ma K (He.ga K "Ratio") "__neg__"), dNeg := fdNeg, FNeg := FNeg, bNeg := bNeg, hNeg := ⟨(SJ.decB (p := PySem.W.findIn K (.ref (He.ga K "Ratio")) "__neg__" = some (some (.ref (He.ma K (He.ga K "Ratio") "__neg__")))) (SJ.nthB h2 2)), (show (PySem.W.isFn K (.ref (He.ma K (He.ga K "Ratio") "__neg__"))) = true from (SJ.nthB h2 3))⟩, aAbs := (He.ma K (He.ga K "Ratio") "__abs__"), dAbs := fdAbs, FAbs := FAbs, bAbs := bAbs, hAbs := ⟨(SJ.decB (p := PySem.W.findIn K (.ref (He.ga K "Ratio")) "__abs__" = some (some (.ref (He.ma K (He.ga K "Ratio") "__abs__")))) (SJ.nthB h2 4)), (show (PySem.W.isFn K (.ref (He.ma K (He.ga K "Ratio") "__abs__"))) = true from (SJ.nthB h2 5))⟩, aBool := (He.ma K (He.ga K "Ratio") "__bool__"), dBool := fdBool, FBool := FBool, bBool := bBool, hBool := ⟨(SJ.decB (p := PySem.W.findIn K (.ref (He.ga K "Ratio")) "__bool__" = some (some (.ref (He.ma K (He.ga K "Ratio") "__bool__")))) (SJ.nthB h2 6)), (show (PySem.W.isFn K (.ref (He.ma K (He.ga K "Ratio") "__bool__"))) = true from (SJ.nthB h2 7))⟩, aEq := (He.ma K (He.ga K "Ratio") "__eq__"), dEq := fdEq, FEq := FEq, bEq := bEq, hEq := ⟨(SJ.decB (p := PySem.W.findIn K (.ref (He.ga K "Ratio")) "__eq__" = some (some (.ref (He.ma K (He.ga K "Ratio") "__eq__")))) (SJ.nthB h2 8)), (show (PySem.W.isFn K (.ref (He.ma K (He.ga K "Ratio") "__eq__"))) = true from (SJ.nthB h2 9))⟩, aStr := (He.ma K (He.ga K "Ratio") "__str__"), dStr := fdStr, FStr := FStr, bStr := bStr, hStr := ⟨(SJ.decB (p := PySem.W.findIn K (.ref (He.ga K "Ratio")) "__str__" = some (some (.ref (He.ma K (He.ga K "Ratio") "__str__")))) (SJ.nthB h2 10)), (show (PySem.W.isFn K (.ref (He.ma K (He.ga K "Ratio") "__str__"))) = true from (SJ.nthB h2 11))⟩, aRepr := (He.ma K (He.ga K "Ratio") "__repr__"), dRepr := fdRepr, FRepr := FRepr, bRepr := bRepr, hRepr := ⟨(SJ.decB (p := PySem.W.findIn K (.ref (He.ga K "Ratio")) "__repr__" = some (some (.ref (He.ma K (He.ga K "Ratio") "__repr__")))) (SJ.nthB h2 12)), (show (PySem.W.isFn K (.ref (He.ma K (He.ga K "Ratio") "__repr__"))) = true from (SJ.nthB h2 13))⟩, aOver := (He.ma K (He.ga K "Ratio") "over"), dOver := fdOver, FOver := FOver, bOver := bOver, hOver := ⟨(SJ.decB (p := PySem.W.findIn K (.ref (He.ga K "Ratio")) "over" = some (some (.ref (He.ma K (He.ga K "Ratio") "over")))) (SJ.nthB h2 14)), (show (PySem.W.isFn K (.ref (He.ma K (He.ga K "Ratio") "over"))) = true from (SJ.nthB h2 15))⟩, aPower := (He.ma K (He.ga K "Ratio") "power"), dPower := fdPower, FPower := FPower, bPower := bPower, hPower := ⟨(SJ.decB (p := PySem.W.findIn K (.ref (He.ga K "Ratio")) "power" = some (some (.ref (He.ma K (He.ga K "Ratio") "power")))) (SJ.nthB h2 16)), (show (PySem.W.isFn K (.ref (He.ma K (He.ga K "Ratio") "power"))) = true from (SJ.nthB h2 17))⟩, aCell := (He.ga K "_law_cell"), dCell := fdCell, FCell := FCell, bCell := bCell, gCell := PySem.W.mg_of X G (SJ.decB (p := PySem.W.nsIn K mainGlobals "_law_cell" = some (some (.ref (He.ga K "_law_cell")))) (SJ.nthB h2 18)), aSrc := (He.ga K "_law_source"), dSrc := fdSrc, FSrc := FSrc, bSrc := bSrc, gSrc := PySem.W.mg_of X G (SJ.decB (p := PySem.W.nsIn K mainGlobals "_law_source" = some (some (.ref (He.ga K "_law_source")))) (SJ.nthB h2 19)), aDraw := (He.ga K "_law_draw"), dDraw := fdDraw, FDraw := FDraw, bDraw := bDraw, gDraw := PySem.W.mg_of X G (SJ.decB (p := PySem.W.nsIn K mainGlobals "_law_draw" = some (some (.ref (He.ga K "_law_draw")))) (SJ.nthB h3 0)), aWho := (He.ga K "_law_whole"), dWho := fdWho, FWho := FWho, bWho := bWho, gWho := PySem.W.mg_of X G (SJ.decB (p := PySem.W.nsIn K mainGlobals "_law_whole" = some (some (.ref (He.ga K "_law_whole")))) (SJ.nthB h3 1)), aWord := (He.ga K "_law_word"), dWord := fdWord, FWord := FWord, bWord := bWord, gWord := PySem.W.mg_of X G (SJ.decB (p := PySem.W.nsIn K mainGlobals "_law_word" = some (some (.ref (He.ga K "_law_word")))) (SJ.nthB h3 2)), aFields := (He.ga K "_law_fields"), dFields := fdFields, FFields := FFields, bFields := bFields, gFields := PySem.W.mg_of X G (SJ.decB (p := PySem.W.nsIn K mainGlobals "_law_fields" = some (some (.ref (He.ga K "_law_fields")))) (SJ.nthB h3 3)), aCaught := (He.ga K "_law_caught"), dCaught := fdCaught, FCaught := FCaught, bCaught := bCaught, gCaught := PySem.W.mg_of X G (SJ.decB (p := PySem.W.nsIn K mainGlobals "_law_caught" = some (some (.ref (He.ga K "_law_caught")))) (SJ.nthB h3 4)), aThing := (He.ga K "_law_thing"), dThing := fdThing, FThing := FThing, bThing := bThing, gThing := PySem.W.mg_of X G (SJ.decB (p := PySem.W.nsIn K mainGlobals "_law_thing" = some (some (.ref (He.ga K "_law_thing")))) (SJ.nthB h3 5)), aLWh := (He.ga K "_law_is_whole"), dLWh := fdLWh, FLWh := FLWh, bLWh := bLWh, gLWh := PySem.W.mg_of X G (SJ.decB (p := PySem.W.nsIn K mainGlobals "_law_is_whole" = some (some (.ref (He.ga K "_law_is_whole")))) (SJ.nthB h3 6)), aMDue := (He.ga K "_law_made_due"), dMDue := fdMDue, FMDue := FMDue, bMDue := bMDue, gMDue := PySem.W.mg_of X G (SJ.decB (p := PySem.W.nsIn K mainGlobals "_law_made_due" = some (some (.ref (He.ga K "_law_made_due")))) (SJ.nthB h3 7)), aIDue := (He.ga K "_law_is_due"), dIDue := fdIDue, FIDue := FIDue, bIDue := bIDue, gIDue := PySem.W.mg_of X G (SJ.decB (p := PySem.W.nsIn K mainGlobals "_law_is_due" = some (some (.ref (He.ga K "_law_is_due")))) (SJ.nthB h3 8)), aODue := (He.ga K "_law_over_due"), dODue := fdODue, FODue := FODue, bODue := bODue, gODue := PySem.W.mg_of X G (SJ.decB (p := PySem.W.nsIn K mainGlobals "_law_over_due" = some (some (.ref (He.ga K "_law_over_due")))) (SJ.nthB h3 9)), aPDue := (He.ga K "_law_power_due"), dPDue := fdPDue, FPDue := FPDue, bPDue := bPDue, gPDue := PySem.W.mg_of X G (SJ.decB (p := PySem.W.nsIn K mainGlobals "_law_power_due" = some (some (.ref (He.ga K "_law_power_due")))) (SJ.nthB h3 10)), aRight := (He.ga K "_law_right"), dRight := fdRight, FRight := FRight, bRight := bRight, gRight := PySem.W.mg_of X G (SJ.decB (p := PySem.W.nsIn K mainGlobals "_law_right" = some (some (.ref (He.ga K "_law_right")))) (SJ.nthB h3 11)), aLaw := (He.ga K "law"), dLaw := fdLaw, FLaw := FLaw, bLaw := bLaw, gLaw := PySem.W.mg_of X G (SJ.decB (p := PySem.W.nsIn K mainGlobals "law" = some (some (.ref (He.ga K "law")))) (SJ.nthB h3 12)), aRd := (SJ.recF K (SJ.clsP K (He.ga K "Ratio") "read") "classmethod"), dRd := fdRd, FRd := FRd, bRd := bRd, pRd := (SJ.clsP K (He.ga K "Ratio") "read"), mc := .type "type", rRd := ⟨(show (PySem.W.readsIn K (He.ga K "Ratio") (.type "type")) = true from (SJ.nthB h3 16)), (SJ.decB (p := PySem.W.specialIn K (.ref (He.ga K "Ratio")) "__getattribute__" = some (some (.builtin "type.__getattribute__"))) (SJ.nthB h3 17))⟩, cRd := ⟨SJ.clsB_ok (show (SJ.clsB K (He.ga K "Ratio") "read") = true from (SJ.nthB h3 13)), ⟨_, (SJ.decB (p := PySem.W.recIn K (SJ.clsP K (He.ga K "Ratio") "read") "classmethod" = some (.ref (SJ.recF K (SJ.clsP K (He.ga K "Ratio") "read") "classmethod") :: SJ.recR K (SJ.clsP K (He.ga K "Ratio") "read") "classmethod")) (SJ.nthB h3 14))⟩, (show (PySem.W.fnIn K (SJ.recF K (SJ.clsP K (He.ga K "Ratio") "read") "classmethod")) = true from (SJ.nthB h3 15))⟩ }
  have Z : SFT.CErr K mg (fun i => ([He.ga K "InvalidNumber", He.ga K "InvalidText", He.ga K "InvalidCount", He.ga K "InvalidName", He.ga K "InvalidTruth", He.ga K "InvalidEntries", He.ga K "NotAFormula", He.ga K "TextError", He.ga K "UnknownName", He.ga K "Clash", He.ga K "DividedByZero", He.ga K "TooLarge"] : List Addr).getD i 0) (fun j => ([He.ga K "GivenError", He.ga K "NameProblem", He.ga K "AnswerError"] : List Addr).getD j 0) := SFT.cerrB_ok (show (SFT.cerrB K [He.ga K "InvalidNumber", He.ga K "InvalidText", He.ga K "InvalidCount", He.ga K "InvalidName", He.ga K "InvalidTruth", He.ga K "InvalidEntries", He.ga K "NotAFormula", He.ga K "TextError", He.ga K "UnknownName", He.ga K "Clash", He.ga K "DividedByZero", He.ga K "TooLarge"] [He.ga K "GivenError", He.ga K "NameProblem", He.ga K "AnswerError"]) = true from (SJ.nthB h7 9)) (fun i hi => mem12 (p := fun i => mg (SFT.cnm i) = some (.ref (([He.ga K "InvalidNumber", He.ga K "InvalidText", He.ga K "InvalidCount", He.ga K "InvalidName", He.ga K "InvalidTruth", He.ga K "InvalidEntries", He.ga K "NotAFormula", He.ga K "TextError", He.ga K "UnknownName", He.ga K "Clash", He.ga K "DividedByZero", He.ga K "TooLarge"] : List Addr).getD i 0))) (PySem.W.mg_of X G (SJ.decB (p := PySem.W.nsIn K mainGlobals "InvalidNumber" = some (some (.ref (He.ga K "InvalidNumber")))) (SJ.nthB h6 14))) (PySem.W.mg_of X G (SJ.decB (p := PySem.W.nsIn K mainGlobals "InvalidText" = some (some (.ref (He.ga K "InvalidText")))) (SJ.nthB h6 15))) (PySem.W.mg_of X G (SJ.decB (p := PySem.W.nsIn K mainGlobals "InvalidCount" = some (some (.ref (He.ga K "InvalidCount")))) (SJ.nthB h6 16))) (PySem.W.mg_of X G (SJ.decB (p := PySem.W.nsIn K mainGlobals "InvalidName" = some (some (.ref (He.ga K "InvalidName")))) (SJ.nthB h6 17))) (PySem.W.mg_of X G (SJ.decB (p := PySem.W.nsIn K mainGlobals "InvalidTruth" = some (some (.ref (He.ga K "InvalidTruth")))) (SJ.nthB h6 18))) (PySem.W.mg_of X G (SJ.decB (p := PySem.W.nsIn K mainGlobals "InvalidEntries" = some (some (.ref (He.ga K "InvalidEntries")))) (SJ.nthB h6 19))) (PySem.W.mg_of X G (SJ.decB (p := PySem.W.nsIn K mainGlobals "NotAFormula" = some (some (.ref (He.ga K "NotAFormula")))) (SJ.nthB h7 0))) (PySem.W.mg_of X G (SJ.decB (p := PySem.W.nsIn K mainGlobals "TextError" = some (some (.ref (He.ga K "TextError")))) (SJ.nthB h7 1))) (PySem.W.mg_of X G (SJ.decB (p := PySem.W.nsIn K mainGlobals "UnknownName" = some (some (.ref (He.ga K "UnknownName")))) (SJ.nthB h7 2))) (PySem.W.mg_of X G (SJ.decB (p := PySem.W.nsIn K mainGlobals "Clash" = some (some (.ref (He.ga K "Clash")))) (SJ.nthB h7 3))) (PySem.W.mg_of X G (SJ.decB (p := PySem.W.nsIn K mainGlobals "DividedByZero" = some (some (.ref (He.ga K "DividedByZero")))) (SJ.nthB h7 4))) (PySem.W.mg_of X G (SJ.decB (p := PySem.W.nsIn K mainGlobals "TooLarge" = some (some (.ref (He.ga K "TooLarge")))) (SJ.nthB h7 5))) i hi) (fun j hj => mem3 (p := fun j => mg (SFT.cbns.getD j "") = some (.ref (([He.ga K "GivenError", He.ga K "NameProblem", He.ga K "AnswerError"] : List Addr).getD j 0))) (PySem.W.mg_of X G (SJ.decB (p := PySem.W.nsIn K mainGlobals "GivenError" = some (some (.ref (He.ga K "GivenError")))) (SJ.nthB h7 6))) (PySem.W.mg_of X G (SJ.decB (p := PySem.W.nsIn K mainGlobals "NameProblem" = some (some (.ref (He.ga K "NameProblem")))) (SJ.nthB h7 7))) (PySem.W.mg_of X G (SJ.decB (p := PySem.W.nsIn K mainGlobals "AnswerError" = some (some (.ref (He.ga K "AnswerError")))) (SJ.nthB h7 8))) j hj) (PySem.W.mg_none_of X G (SJ.decB (p := PySem.W.nsIn K mainGlobals "isinstance" = some none) (SJ.nthB h6 11))) (PySem.W.mg_none_of X G (SJ.decB (p := PySem.W.nsIn K mainGlobals "repr" = some none) (SJ.nthB h6 10)))
  have ZD : DZ K mg (He.ga K "DividedByZero") := SQ.dzB_ok (show (SQ.dzB K (He.ga K "DividedByZero")) = true from (SJ.nthB h7 10)) (PySem.W.mg_of X G (SJ.decB (p := PySem.W.nsIn K mainGlobals "DividedByZero" = some (some (.ref (He.ga K "DividedByZero")))) (SJ.nthB h7 4)))
  have N : ND K := SQ.ndB_ok (show (SQ.ndB K) = true from (SJ.nthB h7 11))
  refine ⟨fdLaw, ([SJ.codeAt K (He.ga K "_law_right")].map fun c => (c, SFY.tabOf K c)), spLaw K (tb1 K (SJ.codeAt K (He.ga K "_law_right"))), SFY.tabsB_ok (show (SFY.tabsB K [SJ.tabAt K (He.ga K "_law_right")] [SJ.codeAt K (He.ga K "_law_right")]) = true from (SJ.nthB h7 12)), fun s u => law_binds FLaw s u, fun H a ns hl hH hS => law_start hl hH hS, fun base _ _ TB => ?_⟩
  exact ok_law T Z ZD N ONum OTxt OCnt (SJ.decB (p := PySem.W.kitOne K (.ref (He.ga K "Ratio")) (.type "str") = some false) (SJ.nthB h7 17)) (SJ.code_of FRight (show (SJ.refCode K (He.ga K "_law_right")) = true from (SJ.nthB h7 13))) (TB (SJ.codeAt K (He.ga K "_law_right"), SFY.tabOf K (SJ.codeAt K (He.ga K "_law_right"))) (by simp))
end T06

open PySem PySem.W PySem.Calls PyProof.Rows in
set_option maxRecDepth 100000 in
set_option maxHeartbeats 0 in
theorem PySem.Challenge.cw_seriesforms_k06_ratios_refused_holds : PySem.Challenge.rw_seriesforms_k06_ratios_refused.Holds := by
  w_on; o_law
  refine HeadRun.head_imp (r := OpenLaw.row PySem.Challenge.rw_seriesforms_k06_ratios_refused) (q := view (OpenLaw.row PySem.Challenge.rw_seriesforms_k06_ratios_refused).prog [0, 46]) (H := T06.hkJ) (ob := T06.obJ) (M := 20000) (loose := T06.looseJ) (d := HeadRun.topDef (OpenLaw.row PySem.Challenge.rw_seriesforms_k06_ratios_refused).prog 46) (kwd := []) T06.ob_eqJ T06.runJ
    (by kernel_rfl) (by kernel_rfl) (by kernel_rfl) (by rfl) (by first | assumption | decide +kernel) (by decide +kernel) ⟨rfl, rfl, rfl, rfl, rfl, by decide +kernel⟩ ?hw ?hc
  case hw => w_witness2
  case hc =>
    refine SJ.walkJ (l := PySem.Challenge.rw_seriesforms_k06_ratios_refused) (n := 63) (k := 11) (x := "_law_cells") rfl (by decide) (by kernel_rfl) ⟨rfl, by decide, by decide⟩ ?F
    intro w mg fa h Y G hmg0
    obtain ⟨K, KX, c, ht⟩ := Y
    have hmg : mg ("law" : PySem.Str) = some (.ref fa) := by
      have e : (HeadRun.topDef (OpenLaw.row PySem.Challenge.rw_seriesforms_k06_ratios_refused).prog 46).name = ("law" : PySem.Str) := by kernel_rfl
      rw [← e]
      exact hmg0
    exact ⟨K, _, KX, fun P hP => by
      obtain ⟨f, hf, rfl⟩ := List.mem_map.mp (show P ∈ T06.lamJ.map (fun f => SJ.tabAt K (f K)) from hP)
      exact ht f hf, T06.all_in (l := PySem.Challenge.rw_seriesforms_k06_ratios_refused) (w := w) KX G hmg c⟩
